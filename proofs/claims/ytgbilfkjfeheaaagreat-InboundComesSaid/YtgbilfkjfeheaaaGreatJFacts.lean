/-
 PLAIN: what is so behind what came in.
-/
import Derived.Test.YtgbilfkjfeheaaaGreatJSum
import Derived.Test.YtgbilfkjfeheaaaGreatONoticeUp
namespace Go.Proofs.YtgbilfkjfeheaaaGreat
set_option linter.unusedVariables false
open Go.RowKit
open Pl (firstG findG putG dropG It)

theorem mem_put {α : Type} (ord : α → α → Int) (l : List α) (x : α) (hn : findG ord l x = none) : x ∈ putG ord l x := by
 unfold putG
 rw [hn]
 simp only []
 split <;> simp
theorem find_put {α : Type} (ord : α → α → Int) (l : List α) (x : α) (hxx : (ord x x == 0) = true) : ∃ i, findG ord (putG ord l x) x = some i ∧ ∃ hi : i < (putG ord l x).length, (putG ord l x)[i] = x := by
 cases hf : findG ord l x with
 | some i =>
  have hl := Pl.firstG_lt hf
  rw [Pl.put_set ord x l i hf]
  refine ⟨i, Pl.firstG_some (by rw [List.length_set]; exact hl) (fun j hj hji => ?_) ?_, by rw [List.length_set]; exact hl, List.getElem_set_self _⟩
  · rw [List.getElem_set_ne (by omega)]
    exact Pl.firstG_before hf j (by rwa [List.length_set] at hj) hji
  · rw [List.getElem_set_self]; exact hxx
 | none =>
  have hs := mem_put ord l x hf
  cases hc : findG ord (putG ord l x) x with
  | none =>
   obtain ⟨j, hj, hjx⟩ := List.mem_iff_getElem.1 hs
   have := Pl.firstG_all hc j hj
   rw [hjx, hxx] at this; cases this
  | some i =>
   have hi := Pl.firstG_lt hc
   have ht := Pl.firstG_at hc hi
   refine ⟨i, rfl, hi, ?_⟩
   rcases Pl.putG_mem (List.getElem_mem hi) with h1 | h1
   · exact h1
   · obtain ⟨j, hj, hjx⟩ := List.mem_iff_getElem.1 h1
     have := Pl.firstG_all hf j hj
     rw [hjx, ht] at this; cases this
/-- The total that was put is found. -/
theorem gotT_put (L : List (List Value)) (x : List Value) (s t : ByteArray) (hs : itemL x = s) (ht : codeL x = t) : (atL (putG ordL L x) s t).isSome = true ∧ gotT (putG ordL L x) s t = x := by
 have hxx : (ordL x x == 0) = true := by rw [ordL_zero, (Pl.eqv_iff _ _).2 rfl, (Pl.eqv_iff _ _).2 rfl]; rfl
 obtain ⟨i, h1, h2, h3⟩ := find_put ordL L x hxx
 have h : atL (putG ordL L x) s t = some i := by
  rw [← h1]
  unfold atL findG
  congr 1
  funext e
  rw [ordL_zero, ordL_zero, hs, ht]; rfl
 refine ⟨by rw [h]; rfl, ?_⟩
 unfold gotT
 rw [h]
 simp only [List.getD_eq_getElem?_getD, List.getElem?_eq_getElem h2, Option.getD_some]
 exact h3
/-- One number of one line is another one. -/
def Ln.withGot (x : Ln) (z : Int) : Ln := ⟨x.item, x.asked, z, x.back, x.packed, x.out⟩
theorem lnAt_set {l : List Value} (hf : Fits kLine8 l) {k j : Nat} (hk : k < 8) (hj : j < 8) (z : Int) : lnAt (l.set (k * 6 + 2) (.int .i64 z)) j = if j = k then (lnAt l k).withGot z else lnAt l j := by
 by_cases h : j = k
 · subst h
   rw [if_pos rfl]
   unfold lnAt
   rw [List.drop_set, if_neg (by omega), show j * 6 + 2 - j * 6 = 2 from by omega, List.take_set, lnAt_cells hf hj]
   rfl
 · rw [if_neg h]
   unfold lnAt
   congr 1
   by_cases hlt : k < j
   · rw [List.drop_set, if_pos (by omega)]
   · rw [List.drop_set, if_neg (by omega), List.take_set, List.set_eq_of_length_le (by rw [List.length_take]; omega)]
theorem nlines_add {X : List Value} (hf : Fits kNotice X) {k : Nat} (hk : k < 8) (q : Int) : nlines (addN X k q) = (nlines X).set (k * 6 + 2) (.int .i64 (wrap64 ((lnAt (nlines X) k).got + q))) := by
 unfold addN
 show ((X.set (2 + k * 6 + 2) _).drop 2).take 48 = (((X.drop 2).take 48).set (k * 6 + 2) _)
 rw [List.drop_set, if_neg (by omega), show 2 + k * 6 + 2 - 2 = k * 6 + 2 from by omega, List.take_set]
theorem codeOf_add {X : List Value} (hf : Fits kNotice X) (k : Nat) (q : Int) : codeOf (addN X k q) = codeOf X := by
 unfold addN
 cases X with
 | nil => rfl
 | cons c X => rw [show 2 + k * 6 + 2 = (k * 6 + 3) + 1 from by omega, List.set_cons_succ]; cases c <;> rfl
theorem fits_setI : ∀ {ks : List CK} {vs : List Value} (i : Nat) (z : Int), Fits ks vs → ks[i]? = some CK.i → Fits ks (vs.set i (.int .i64 z))
 | [], [], _, _, h, _ => h
 | [], _ :: _, _, _, h, _ => h.elim
 | _ :: _, [], _, _, h, _ => h.elim
 | k :: ks, v :: vs, 0, z, h, hk => by
  simp only [List.getElem?_cons_zero, Option.some.injEq] at hk
  subst hk
  exact ⟨⟨z, rfl⟩, h.2⟩
 | k :: ks, v :: vs, i + 1, z, h, hk => ⟨h.1, fits_setI i z h.2 (by simpa using hk)⟩
theorem addNF {X : List Value} (h : Fits kNotice X) {k : Nat} (hk : k < 8) (q : Int) : Fits kNotice (addN X k q) := fits_setI _ _ h (by
 match k, hk with
 | 0, _ | 1, _ | 2, _ | 3, _ | 4, _ | 5, _ | 6, _ | 7, _ => rfl)
/-- Numbers of lines as the law asks. -/
def LnOk (x : Ln) : Prop := 0 ≤ x.asked ∧ x.asked ≤ 1099511627776 ∧ 0 ≤ x.got ∧ x.got ≤ 1099511627776
def NotesOk (LN : List (List Value)) : Prop := ∀ X ∈ LN, ∀ k, k < 8 → LnOk (lnAt (nlines X) k)
theorem got_mem {LN : List (List Value)} {s : ByteArray} (h : (atNotice LN s).isSome = true) : gotNotice LN s ∈ LN := by
 unfold gotNotice
 cases hc : atNotice LN s with
 | none => rw [hc] at h; cases h
 | some i =>
  have hl := Pl.firstG_lt hc
  simp only [List.getD_eq_getElem?_getD, List.getElem?_eq_getElem hl, Option.getD_some]
  exact List.getElem_mem hl
/-- What is so where something came in. -/
structure Came (L : Nat → List (List Value)) (x : Cm) : Prop where
 found : (atNotice (L 6) x.notice).isSome = true
 lo : 1 ≤ recQ L x
 hi : recQ L x ≤ 1000000000
 line : ∃ k : Nat, k < 8 ∧ lineI (nlines (gotNotice (L 6) x.notice)) x.item = (k : Int) ∧ recQ L x ≤ wrap64 ((lnAt (nlines (gotNotice (L 6) x.notice)) k).asked - (lnAt (nlines (gotNotice (L 6) x.notice)) k).got)
theorem came_of {L : Nat → List (List Value)} {x : Cm} (h : recE L x = 0) : Came L x := by
 unfold recE at h
 split at h
 · cases h
 rename_i h1
 split at h
 · cases h
 split at h
 · cases h
 rename_i h3
 split at h
 · rename_i h4; exact absurd h h4
 rename_i h4
 have h4' : recB L x (gotNotice (L 6) x.notice) (lineI (nlines (gotNotice (L 6) x.notice)) x.item).toNat = 0 := Classical.byContradiction fun hc => h4 hc
 have hl : ¬ lineI (nlines (gotNotice (L 6) x.notice)) x.item < 0 := fun hc => h3 (.inl hc)
 have hq : ¬ (recQ L x < 1 ∨ 1000000000 < recQ L x) := by
  unfold putE at h
  split at h
  · cases h
  · assumption
 rcases downI_cases (forB (nlines (gotNotice (L 6) x.notice)) x.item) 8 (Nat.le_refl _) with hm | ⟨k, hk, _, hm, _⟩
 · exact absurd (by rw [show lineI _ _ = _ from hm]; decide) hl
 · have hm' : lineI (nlines (gotNotice (L 6) x.notice)) x.item = (k : Int) := hm
   refine ⟨by cases hq : (atNotice (L 6) x.notice).isSome with | true => rfl | false => exact absurd hq h1, by omega, by omega, k, hk, hm', ?_⟩
   rw [hm', Int.toNat_natCast] at h4'
   unfold recB at h4'
   split at h4'
   · rename_i h5; exact absurd h4' h5
   split at h4'
   · rename_i h6; exact absurd h4' h6
   split at h4'
   · cases h4'
   · rename_i h7; omega
theorem gotNotice_code2 {LN : List (List Value)} {s : ByteArray} (h : (atNotice LN s).isSome = true) : codeOf (gotNotice LN s) = s := gotNotice_code h
/-- The notice behind what came in: it is found; its lines keep their bounds; of the line that came no more than was asked for. -/
theorem came_notice {L : Nat → List (List Value)} {x : Cm} (hT : Things kNotice (L 6)) (hN : NotesOk (L 6)) (h : Came L x) :
 (atNotice (recM L x 6) x.notice).isSome = true ∧ gotNotice (recM L x 6) x.notice = recN L x ∧ Fits kNotice (recN L x) ∧ NotesOk (recM L x 6) ∧
 ∀ k, k < 8 → forB (nlines (recN L x)) x.item k = true → (∀ j, j < k → forB (nlines (recN L x)) x.item j = false) → (lnAt (nlines (recN L x)) k).got ≤ (lnAt (nlines (recN L x)) k).asked := by
 obtain ⟨k0, hk0, hl, hq⟩ := h.line
 have hm := got_mem h.found
 have hf : Fits kNotice (gotNotice (L 6) x.notice) := hT _ hm
 have h8 := (notice_parts hf).2.2.1
 obtain ⟨X, hX⟩ : ∃ X, gotNotice (L 6) x.notice = X := ⟨_, rfl⟩
 have hcd : codeOf X = x.notice := by rw [← hX]; exact gotNotice_code h.found
 have hrn : recN L x = addN X k0 (recQ L x) := by unfold recN; rw [hX]; rw [hX] at hl; rw [hl, Int.toNat_natCast]
 rw [hX] at hm hf h8 hl hq
 have hcn : codeOf (recN L x) = x.notice := by rw [hrn, codeOf_add hf, hcd]
 have hnl : nlines (recN L x) = (nlines X).set (k0 * 6 + 2) (.int .i64 (wrap64 ((lnAt (nlines X) k0).got + recQ L x))) := by rw [hrn]; exact nlines_add hf hk0 _
 have hat : ∀ j, j < 8 → lnAt (nlines (recN L x)) j = if j = k0 then (lnAt (nlines X) k0).withGot (wrap64 ((lnAt (nlines X) k0).got + recQ L x)) else lnAt (nlines X) j := fun j hj => by rw [hnl]; exact lnAt_set h8 hk0 hj _
 have hok := hN X hm
 have hk := hok k0 hk0
 have hlo := h.lo
 have hhi := h.hi
 have hb : recQ L x ≤ (lnAt (nlines X) k0).asked - (lnAt (nlines X) k0).got := by
  obtain ⟨a1, a2, a3, a4⟩ := hk
  unfold wrap64 at hq; omega
 have hw : wrap64 ((lnAt (nlines X) k0).got + recQ L x) = (lnAt (nlines X) k0).got + recQ L x := by
  obtain ⟨a1, a2, a3, a4⟩ := hk
  unfold wrap64; omega
 have hM6 : recM L x 6 = putG ordNotice (L 6) (recN L x) := by unfold recM; rw [if_neg (by decide), if_pos rfl]
 have hRF : Fits kNotice (recN L x) := by rw [hrn]; exact addNF hf hk0 _
 have hpu := gotNotice_put (L 6) (recN L x)
 rw [hcn] at hpu
 have hROK : ∀ j, j < 8 → LnOk (lnAt (nlines (recN L x)) j) := fun j hj => by
  rw [hat j hj]
  by_cases e : j = k0
  · rw [if_pos e]
    obtain ⟨a1, a2, a3, a4⟩ := hk
    rw [hw]
    exact ⟨a1, a2, by show 0 ≤ (lnAt (nlines X) k0).got + recQ L x; omega, by show (lnAt (nlines X) k0).got + recQ L x ≤ _; omega⟩
  · rw [if_neg e]; exact hok j hj
 refine ⟨by rw [hM6]; exact hpu.1, by rw [hM6]; exact hpu.2, hRF, fun Y hY j hj => ?_, fun j hj hfj hfirst => ?_⟩
 · rw [hM6] at hY
   rcases Pl.putG_mem hY with h1 | h1
   · rw [h1]; exact hROK j hj
   · exact hN Y h1 j hj
 · have hfb : ∀ i, i < 8 → forB (nlines (recN L x)) x.item i = forB (nlines X) x.item i := fun i hi => by
    unfold forB
    rw [hat i hi]
    by_cases e : i = k0
    · rw [if_pos e, e]; rfl
    · rw [if_neg e]
   have hk00 : forB (nlines X) x.item k0 = true := by
    rcases downI_cases (forB (nlines X) x.item) 8 (Nat.le_refl _) with hm2 | ⟨k, hk8, _, hm2, hf2⟩
    · rw [show lineI (nlines X) x.item = _ from hm2] at hl; omega
    · rw [show lineI (nlines X) x.item = _ from hm2] at hl
      have : k = k0 := by omega
      rw [← this]; exact hf2
   have hjk : j = k0 := by
    rcases Nat.lt_trichotomy j k0 with h1 | h1 | h1
    · have := downI_first (forB (nlines X) x.item) 8 (Nat.le_refl _) k0 hl j (by omega) h1
      rw [hfb j hj, this] at hfj; cases hfj
    · exact h1
    · have := hfirst k0 h1
      rw [hfb k0 hk0, hk00] at this; cases this
   rw [hat j hj, if_pos hjk]
   show wrap64 ((lnAt (nlines X) k0).got + recQ L x) ≤ (lnAt (nlines X) k0).asked
   rw [hw]; omega
/-- The total behind what came in. -/
theorem came_total {L : Nat → List (List Value)} {x : Cm} (hT : Things kTotal (L 13)) (hk : (tlOf (gotT (L 13) x.item x.lot)).item = x.item ∧ (tlOf (gotT (L 13) x.item x.lot)).lot = x.lot) : gotT (recM L x 13) x.item x.lot = recT L x := by
 have hM : recM L x 13 = putG ordL (L 13) (recT L x) := by unfold recM; rw [if_neg (by decide), if_neg (by decide), if_pos rfl]
 rw [hM]
 exact (gotT_put (L 13) (recT L x) x.item x.lot hk.1 hk.2).2
theorem gotT_key {L : List (List Value)} (h : Things kTotal L) (s t : ByteArray) : (tlOf (gotT L s t)).item = s ∧ (tlOf (gotT L s t)).lot = t := by
 unfold gotT
 cases hc : atL L s t with
 | none => exact ⟨rfl, rfl⟩
 | some i =>
  have hl := Pl.firstG_lt hc
  have ha := Pl.firstG_at hc hl
  simp only [List.getD_eq_getElem?_getD, List.getElem?_eq_getElem hl, Option.getD_some]
  have hk := tl_key (h _ (List.getElem_mem hl))
  rw [show (ordL L[i] (keyL s t) == 0) = (Pl.eqv (itemL L[i]) s && Pl.eqv (codeL L[i]) t) from ordL_zero _ _, Bool.and_eq_true, Pl.eqv_iff, Pl.eqv_iff] at ha
  exact ⟨hk.1.symm.trans ha.1, hk.2.symm.trans ha.2⟩
/-- What stands, behind what came in. -/
theorem came_sum (p : Ky → Bool) (L : Nat → List (List Value)) (x : Cm) : wrap64 (sumP p (recM L x 4)) = wrap64 (sumP p (L 4) + if p (recK L x) = true then recQ L x else 0) := by
 have hM : recM L x 4 = putL (L 4) (recK L x) (recQ L x) := by unfold recM; rw [if_pos rfl]
 rw [hM]; exact sum_put p (L 4) (recK L x) (recQ L x)
end Go.Proofs.YtgbilfkjfeheaaaGreat
