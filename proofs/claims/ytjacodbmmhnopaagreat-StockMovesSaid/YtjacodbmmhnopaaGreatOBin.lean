/-
  PLAIN: things of api.Bin by their code. (By wip/tools/gen_one.py.)
  CONTRACT of the rows' FindBin.
  PLAIN: lists of api.Bin that rise; what was put is found. (By wip/tools/gen_one.py.)
  (By wip/tools/merge.py.)
-/
import Derived.Test.YtjacodbmmhnopaaGreatOBase
import Derived.Test.YtjacodbmmhnopaaGreatHLents
namespace Go.Proofs.YtjacodbmmhnopaaGreat
set_option linter.unusedVariables false
open Go.RowKit
open Pl (firstG findG putG overG)

def ordBin (a b : List Value) : Int := Pl.cmp (codeOf a) (codeOf b)
theorem code_Bin {x : List Value} (h : Fits kBin x) : ∃ r, x = .string (codeOf x) :: r := by
  match x, h with
  | v :: r, h => obtain ⟨d, rfl⟩ := h.1; exact ⟨r, rfl⟩
def zeroBin : List Value := [.string ⟨#[]⟩, .string ⟨#[]⟩, .int .i64 0, .int .i64 0, .int .i64 0, .int .i64 0, .int .i64 0, .bool false]
def keyBin (s : ByteArray) : List Value := [.string s, .string ⟨#[]⟩, .int .i64 0, .int .i64 0, .int .i64 0, .int .i64 0, .int .i64 0, .bool false]
theorem keyBin_fits (s : ByteArray) : Fits kBin (keyBin s) := ⟨⟨_, rfl⟩, ⟨_, rfl⟩, ⟨_, rfl⟩, ⟨_, rfl⟩, ⟨_, rfl⟩, ⟨_, rfl⟩, ⟨_, rfl⟩, ⟨_, rfl⟩, trivial⟩
theorem zeroBin_fits : Fits kBin zeroBin := keyBin_fits _
/-- Where an item of a code stands; the item. -/
def atBin (L : List (List Value)) (s : ByteArray) : Option Nat := findG ordBin L (keyBin s)
def gotBin (L : List (List Value)) (s : ByteArray) : List Value := match atBin L s with | some i => L.getD i zeroBin | none => zeroBin
theorem gotBin_fits {L : List (List Value)} (h : Things kBin L) (s : ByteArray) : Fits kBin (gotBin L s) := by
  unfold gotBin
  split
  · rename_i i hi
    have hl : i < L.length := Pl.firstG_lt hi
    rw [List.getD_eq_getElem?_getD, List.getElem?_eq_getElem hl]
    exact h _ (List.getElem_mem hl)
  · exact zeroBin_fits
theorem atBin_first (L : List (List Value)) (s : ByteArray) : atBin L s = firstG (fun e => Pl.eqv (codeOf e) s) L := by
  unfold atBin findG
  congr 1
  funext e
  exact Pl.cmp_zero _ _
theorem gotBin_none {L : List (List Value)} {s : ByteArray} (h : (atBin L s).isSome = false) : gotBin L s = zeroBin := by
  unfold gotBin
  cases hc : atBin L s with
  | none => rfl
  | some i => rw [hc] at h; cases h
theorem gotBin_code {L : List (List Value)} {s : ByteArray} (h : (atBin L s).isSome = true) : codeOf (gotBin L s) = s := by
  unfold gotBin
  cases hc : atBin L s with
  | none => rw [hc] at h; cases h
  | some i =>
    rw [atBin_first] at hc
    have hl := Pl.firstG_lt hc
    have ha := Pl.firstG_at hc hl
    simp only [List.getD_eq_getElem?_getD, List.getElem?_eq_getElem hl, Option.getD_some]
    exact (Pl.eqv_iff _ _).1 ha
end Go.Proofs.YtjacodbmmhnopaaGreat

namespace Go.Proofs.YtjacodbmmhnopaaGreat
set_option linter.unusedVariables false
open Go.RowKit
open Pl (firstG findG)

set_option maxRecDepth 100000 in
set_option maxHeartbeats 1600000 in
theorem rfindBin (h : Hs) (L : List (List Value)) (s : ByteArray) (w : World) (hn : h.n 3 = L.length) (hn6 : h.n 3 ≤ 1000000) (hL : Things kBin L) (hr : Rd w w.heap.size (h.A 3) L.flatten) :
    Calls Tryz.prog 37 #[.agg h.cells, .string s] w fun e w' => e = .returned (.tuple #[.agg (gotBin L s).toArray, .bool (atBin L s).isSome]) ∧ Below w.heap.size w w' := by
  obtain ⟨W0, hW0⟩ : ∃ W0, W0 = (w.alloc (.cells h.cells 37)).alloc (.cells zeroBin.toArray 52) := ⟨_, rfl⟩
  have HB0 : Hid (Below w.heap.size w W0) := Lib.hid (by rw [hW0]; exact ((Below.refl _ _).alloc (Nat.le_refl _) _).alloc (by simp) _)
  have HS0 : Hid (W0.heap.size = w.heap.size + 2) := Lib.hid (by rw [hW0]; simp)
  have HHX : Hid (∀ W, Below W0.heap.size W0 W → W.heap[w.heap.size]? = some (.cells h.cells 37 (0, 0))) := Lib.hid (fun W hW => (hW.block _ (by rw [HS0.out]; omega)).trans (by rw [hW0]; exact (Below.heap_alloc _ _ _ (by simp)).trans (heap_alloc_new _ _)))
  have HRX : Hid (∀ W, Below W0.heap.size W0 W → W.heap[w.heap.size + 1]? = some (.cells zeroBin.toArray 52 (0, 0))) := Lib.hid (fun W hW => (hW.block _ (by rw [HS0.out]; omega)).trans (by
    rw [hW0]
    have := heap_alloc_new (w.alloc (.cells h.cells 37)) (.cells zeroBin.toArray 52)
    simpa using this))
  have HN := Lib.hid hn
  have HL := Lib.hid hL
  have HR := Lib.hid hr
  have hu := Tryz.underlying52
  have HSZ : Hid (∀ y, Fits kBin y → (Tryz.prog.info? 52).map (·.size) = some y.toArray.size) := Lib.hid (fun y hy => by rw [show (Tryz.prog.info? 52).map (·.size) = some 8 from by kernel_rfl, List.size_toArray, hy.length]; rfl)
  have HAT := Lib.hid (atBin_first L s)
  clear hn hL hr
  go_enter Tryz.func37, Tryz.ntmps37
  go_wp2_with fail
  unfold Hs.cells at hW0
  unfold zeroBin at hW0
  have HE : Hid (∀ (i : Nat) (W : World), Below W0.heap.size W0 W → W.cell? ⟨w.heap.size, 3, none⟩ = some (.slice (h.A 3) (h.n 3) (h.c 3))) := Lib.hid (fun i W hW => (cell_of_block (HHX.out W hW)).trans rfl)
  obtain ⟨n, hnn⟩ : ∃ n, h.n 3 = n := ⟨_, rfl⟩
  rw [hnn] at HN HE hn6
  have HNN := Lib.hid hnn
  go_loopw [6] (fun i wr => ∃ k : Nat, k ≤ n ∧ i = .int .i64 (k : Int) ∧ Hid (∀ j (hj : j < L.length), j < k → Pl.eqv (codeOf L[j]) s = false) ∧ Hid (Below W0.heap.size W0 wr)) (fun i _ => n - (intOf i).toNat)
  case atStart => exact ⟨0, by omega, rfl, Lib.hid (fun j hj h => by omega), Lib.hid (by rw [hW0]; exact Below.refl _ _)⟩
  case round =>
    obtain ⟨k, hkn, rfl, hno, hbel⟩ := hrel
    have c0 := HE.out 0 wr hbel.out
    have HBR : Hid (Below w.heap.size w wr) := Lib.hid (HB0.out.trans (hbel.out.mono HB0.out.size))
    have HX1 := Lib.hid (HRX.out wr hbel.out)
    by_cases hlt : k < n
    · have hl : k < L.length := by rw [← HN.out]; exact hlt
      obtain ⟨b, off, hA, hb, hc⟩ := HR.out.thing HL.out (by decide) hl
      rw [hA] at c0 HE
      have fx := HL.out _ (List.getElem_mem hl)
      have r1 := rangeAt_below (hc k hl) hb HBR.out
      rw [show kBin.length = 8 from rfl] at r1
      obtain ⟨x, hx⟩ : ∃ x, L[k] = x := ⟨_, rfl⟩
      rw [hx] at fx r1
      have HXK := Lib.hid hx
      have HF := Lib.hid fx
      have HR1 := Lib.hid r1
      obtain ⟨r, hxr⟩ := code_Bin fx
      obtain ⟨q, hq⟩ : ∃ q, codeOf x = q := ⟨_, rfl⟩
      have d0 : wr.cell? ⟨b, off + k * 8, none⟩ = some (.string q) := by
        have := r1 0 (.string q) (by rw [hxr, hq]; rfl)
        simpa using this
      have HQ := Lib.hid hq
      have h1 : (0 : Int) ≤ (k : Int) := by omega
      have h2 : (k : Int) < (n : Int) := by omega
      have HIX : Hid ((Tryz.prog.info? 52).map (·.size) = some x.length) := Lib.hid (by have := HSZ.out x fx; rwa [List.size_toArray] at this)
      have HOZ : Hid (zeroBin.toArray.size = x.toArray.size) := Lib.hid (by rw [List.size_toArray, List.size_toArray, fx.length]; rfl)
      have HOC : Hid (x.toArray.all (·.oneCell') = true) := Lib.hid (all_oneCell_toArray (fits_one fx))
      have HBE : Hid (Below w.heap.size w (wr.setRow (w.heap.size + 1) x.toArray)) := Lib.hid (by
        have hb := HBR.out
        exact ⟨hb.os, hb.tape, hb.output, by simpa using hb.size, fun k hk => (setRow_other _ _ k _ (by omega)).trans (hb.block k hk)⟩)
      clear hc r1 hx fx hb hA hq hxr
      cases he : Pl.eqv q s with
      | true =>
        have HG : Hid (atBin L s = some k) := Lib.hid (by
          rw [HAT.out]
          exact Pl.firstG_some hl (fun j hj hjk => hno.out j hj hjk) (by rw [HXK.out, HQ.out]; exact he))
        have HG2 : Hid (gotBin L s = x) := Lib.hid (by
          unfold gotBin; rw [HG.out]; simp only []; rw [List.getD_eq_getElem?_getD, List.getElem?_eq_getElem hl]; exact HXK.out)
        have he' : (q.toList == s.toList) = true := he
        clear he
        go_wp2_with (first
          | (refine wpList_load_mid rfl 52 (.tmp 25) rfl b (off + k * 8) rfl x _ HR1.out hu rfl HIX.out ?_)
          | (refine wpList_store_row rfl 52 (.tmp 4) (.tmp 26) rfl (w.heap.size + 1) x.toArray rfl rfl _ _ HX1.out (HSZ.out _ HF.out) HOZ.out HOC.out ?_)
          | fail)
        exact bodyPost_ret (results_row_tmp rfl _ _ (w.heap.size + 1) _ _ _ _ rfl (setRow_heap _ _ _ _ _ _ HX1.out) hu rfl (HSZ.out _ HF.out)) rfl ⟨by rw [HG2.out, HG.out]; rfl, HBE.out⟩
      | false =>
        have HNO : Hid (∀ j (hj : j < L.length), j < k + 1 → Pl.eqv (codeOf L[j]) s = false) := Lib.hid (fun j hj hjk => by
          by_cases e : j = k
          · subst e; rw [HXK.out, HQ.out]; exact he
          · exact hno.out j hj (by omega))
        have he' : (q.toList == s.toList) = false := he
        clear he
        go_wp2_with fail
        go_roundw
        case rel => exact ⟨k + 1, by omega, by go_num, HNO, hbel⟩
        case measure => simp [intOf]; omega
    · have HG : Hid (atBin L s = none) := Lib.hid (by
        rw [HAT.out]
        exact Pl.firstG_none (fun j hj => hno.out j hj (by have := HN.out; omega)))
      have HG2 : Hid (gotBin L s = zeroBin) := Lib.hid (by unfold gotBin; rw [HG.out])
      have HZO : Hid (zeroBin.toArray.all (·.oneCell') = true) := Lib.hid (by simp [zeroBin, Value.oneCell'])
      have HBE : Hid (Below w.heap.size w (wr.setRow (w.heap.size + 1) zeroBin.toArray)) := Lib.hid (by
        have hb := HBR.out
        exact ⟨hb.os, hb.tape, hb.output, by simpa using hb.size, fun k hk => (setRow_other _ _ k _ (by omega)).trans (hb.block k hk)⟩)
      go_wp2_with (first
        | (refine wpList_store_row rfl 52 (.tmp 4) (.tmp 27) rfl (w.heap.size + 1) zeroBin.toArray rfl rfl _ _ HX1.out (HSZ.out _ zeroBin_fits) rfl HZO.out ?_)
        | fail)
      exact bodyPost_ret (results_row_tmp rfl _ _ (w.heap.size + 1) _ _ _ _ rfl (setRow_heap _ _ _ _ _ _ HX1.out) hu rfl (HSZ.out _ zeroBin_fits)) rfl ⟨by rw [HG2.out, HG.out]; rfl, HBE.out⟩
end Go.Proofs.YtjacodbmmhnopaaGreat

namespace Go.Proofs.YtjacodbmmhnopaaGreat
set_option linter.unusedVariables false
open Go.RowKit
open Pl (firstG findG putG overG)

def UpBin (L : List (List Value)) : Prop := L.Pairwise fun a b => Pl.lt (codeOf a) (codeOf b) = true
theorem UpBin.at {L : List (List Value)} (h : UpBin L) {i j : Nat} (hi : i < L.length) (hj : j < L.length) (hij : i < j) : Pl.lt (codeOf L[i]) (codeOf L[j]) = true := List.pairwise_iff_getElem.1 h i j hi hj hij
theorem atBin_at {L : List (List Value)} (h : UpBin L) {k : Nat} (hk : k < L.length) : atBin L (codeOf L[k]) = some k := by
  rw [atBin_first]
  exact Pl.firstG_some hk (fun j hj hjk => eqv_of_lt (h.at hj hk hjk)) ((Pl.eqv_iff _ _).2 rfl)
theorem gotBin_at {L : List (List Value)} (h : UpBin L) {k : Nat} (hk : k < L.length) : gotBin L (codeOf L[k]) = L[k] := by
  unfold gotBin
  rw [atBin_at h hk]
  simp only []
  rw [List.getD_eq_getElem?_getD, List.getElem?_eq_getElem hk]; rfl
theorem atBin_none {L : List (List Value)} {s : ByteArray} (h : atBin L s = none) : ∀ e ∈ L, codeOf e ≠ s := fun e he hs => by
  obtain ⟨j, hj, rfl⟩ := List.getElem_of_mem he
  rw [atBin_first] at h
  have := Pl.firstG_all h j hj
  rw [hs, (Pl.eqv_iff s s).2 rfl] at this
  cases this
theorem atBin_some {L : List (List Value)} {s : ByteArray} {k : Nat} (h : atBin L s = some k) : ∃ e ∈ L, codeOf e = s := by
  rw [atBin_first] at h
  have hk := Pl.firstG_lt h
  exact ⟨L[k], List.getElem_mem hk, (Pl.eqv_iff _ _).1 (Pl.firstG_at h hk)⟩
theorem findG_atBin {L : List (List Value)} {x : List Value} : findG ordBin L x = atBin L (codeOf x) := by
  rw [atBin_first]
  unfold findG
  congr 1
  funext e
  exact Pl.cmp_zero _ _
theorem put_upBin {L : List (List Value)} {x : List Value} (h : UpBin L) (hn : atBin L (codeOf x) = none) : UpBin (putG ordBin L x) := by
  have hne := atBin_none hn
  unfold putG
  rw [findG_atBin, hn]
  simp only
  cases ho : overG ordBin L x with
  | none =>
    refine List.pairwise_append.2 ⟨h, List.pairwise_singleton _ _, fun a ha b hb => ?_⟩
    rw [List.mem_singleton] at hb
    subst hb
    obtain ⟨j, hj, rfl⟩ := List.getElem_of_mem ha
    have := Pl.firstG_all ho j hj
    rw [show decide (0 < ordBin L[j] b) = Pl.lt (codeOf b) (codeOf L[j]) from Pl.cmp_pos _ _] at this
    rcases Pl.lt_tri (codeOf L[j]) (codeOf b) with h' | h' | h'
    · exact h'
    · exact absurd h' (hne _ (List.getElem_mem hj))
    · rw [this] at h'; cases h'
  | some i =>
    have hi := Pl.firstG_lt ho
    have hxi : Pl.lt (codeOf x) (codeOf L[i]) = true := by
      have := Pl.firstG_at ho hi
      rwa [show decide (0 < ordBin L[i] x) = Pl.lt (codeOf x) (codeOf L[i]) from Pl.cmp_pos _ _] at this
    have hlo : ∀ a ∈ L.take i, Pl.lt (codeOf a) (codeOf x) = true := fun a ha => by
      obtain ⟨j, hj, rfl⟩ := List.getElem_of_mem ha
      rw [List.length_take] at hj
      rw [List.getElem_take]
      have := Pl.firstG_before ho j (by omega) (by omega)
      rw [show decide (0 < ordBin L[j] x) = Pl.lt (codeOf x) (codeOf L[j]) from Pl.cmp_pos _ _] at this
      rcases Pl.lt_tri (codeOf L[j]) (codeOf x) with h' | h' | h'
      · exact h'
      · exact absurd h' (hne _ (List.getElem_mem (by omega)))
      · rw [this] at h'; cases h'
    have hhi : ∀ b ∈ L.drop i, Pl.lt (codeOf x) (codeOf b) = true := fun b hb => by
      obtain ⟨j, hj, rfl⟩ := List.getElem_of_mem hb
      rw [List.length_drop] at hj
      rw [List.getElem_drop]
      rcases Nat.eq_zero_or_pos j with h0 | h0
      · subst h0; simpa using hxi
      · exact Pl.lt_trans hxi (h.at hi (by omega) (by omega))
    refine List.pairwise_append.2 ⟨List.pairwise_append.2 ⟨h.sublist (List.take_sublist _ _), List.pairwise_singleton _ _, fun a ha b hb => ?_⟩, h.sublist (List.drop_sublist _ _), fun a ha b hb => ?_⟩
    · rw [List.mem_singleton] at hb; subst hb; exact hlo a ha
    · rcases List.mem_append.1 ha with ha | ha
      · exact Pl.lt_trans (hlo a ha) (hhi b hb)
      · rw [List.mem_singleton] at ha; subst ha; exact hhi b hb
theorem put_lenBin {L : List (List Value)} {x : List Value} (hn : atBin L (codeOf x) = none) : (putG ordBin L x).length = L.length + 1 := by
  rw [Pl.putG_len, findG_atBin, hn]; rfl
theorem put_hasBin {L : List (List Value)} {x e : List Value} (hn : atBin L (codeOf x) = none) (h : e = x ∨ e ∈ L) : e ∈ putG ordBin L x := by
  unfold putG
  rw [findG_atBin, hn]
  simp only
  cases overG ordBin L x with
  | none => rcases h with rfl | h <;> simp [*]
  | some i =>
    rcases h with rfl | h
    · simp
    · rw [← List.take_append_drop i L] at h
      simp only [List.mem_append, List.mem_singleton]
      rcases List.mem_append.1 h with h | h
      · exact .inl (.inl h)
      · exact .inr h
/-- What was put is found. -/
theorem gotBin_put (L : List (List Value)) (x : List Value) : (atBin (putG ordBin L x) (codeOf x)).isSome = true ∧ gotBin (putG ordBin L x) (codeOf x) = x := by
  have hxx : Pl.eqv (codeOf x) (codeOf x) = true := (Pl.eqv_iff _ _).2 rfl
  have key : ∀ i, atBin (putG ordBin L x) (codeOf x) = some i → (putG ordBin L x).getD i zeroBin = x → (atBin (putG ordBin L x) (codeOf x)).isSome = true ∧ gotBin (putG ordBin L x) (codeOf x) = x := fun i h1 h2 => by
    unfold gotBin; rw [h1]; exact ⟨rfl, h2⟩
  cases hf : findG ordBin L x with
  | some i =>
    have hl := Pl.firstG_lt hf
    have hp := Pl.put_set ordBin x L i hf
    refine key i ?_ ?_
    · rw [atBin_first, hp]
      refine Pl.firstG_some (by rw [List.length_set]; exact hl) (fun j hj hji => ?_) ?_
      · rw [List.getElem_set_ne (by omega)]
        have hj' : j < L.length := by rwa [List.length_set] at hj
        have := Pl.firstG_before hf j hj' hji
        rw [show (ordBin L[j] x == 0) = Pl.eqv (codeOf L[j]) (codeOf x) from Pl.cmp_zero _ _] at this
        exact this
      · rw [List.getElem_set_self]; exact hxx
    · rw [hp, List.getD_eq_getElem?_getD, List.getElem?_eq_getElem (by rw [List.length_set]; exact hl), List.getElem_set_self]; rfl
  | none =>
    have hn : ∀ e ∈ L, Pl.eqv (codeOf e) (codeOf x) = false := fun e he => by
      obtain ⟨j, hj, rfl⟩ := List.mem_iff_getElem.1 he
      have := Pl.firstG_all hf j hj
      rw [show (ordBin L[j] x == 0) = Pl.eqv (codeOf L[j]) (codeOf x) from Pl.cmp_zero _ _] at this
      exact this
    have hs := put_hasBin (L := L) (x := x) (e := x) (by rw [← findG_atBin]; exact hf) (.inl rfl)
    cases hc : atBin (putG ordBin L x) (codeOf x) with
    | none =>
      rw [atBin_first] at hc
      obtain ⟨j, hj, hjx⟩ := List.mem_iff_getElem.1 hs
      have := Pl.firstG_all hc j hj
      rw [hjx, hxx] at this; cases this
    | some i =>
      have h := hc
      rw [atBin_first] at h
      have hi := Pl.firstG_lt h
      have ht := Pl.firstG_at h hi
      rw [← hc]
      refine key i hc ?_
      rw [List.getD_eq_getElem?_getD, List.getElem?_eq_getElem hi]
      rcases Pl.putG_mem (List.getElem_mem hi) with h1 | h1
      · exact h1
      · rw [hn _ h1] at ht; cases ht
/-- Put another one of its code, then the one that was there: the list is as it was. -/
theorem put_backBin {L : List (List Value)} {x y : List Value} (h : (atBin L (codeOf x)).isSome = true) (hg : gotBin L (codeOf x) = x) (hy : codeOf y = codeOf x) : putG ordBin (putG ordBin L y) x = L := by
  cases hc : atBin L (codeOf x) with
  | none => rw [hc] at h; cases h
  | some i =>
    have hf : findG ordBin L y = some i := by rw [findG_atBin, hy]; exact hc
    have hl := Pl.firstG_lt hf
    have hx : L[i] = x := by
      unfold gotBin at hg
      rw [hc] at hg
      simpa [List.getD_eq_getElem?_getD, List.getElem?_eq_getElem hl] using hg
    have hf2 : findG ordBin (L.set i y) x = some i := by
      rw [findG_atBin, atBin_first]
      refine Pl.firstG_some (by rw [List.length_set]; exact hl) (fun j hj hji => ?_) ?_
      · rw [List.getElem_set_ne (by omega)]
        have hj' : j < L.length := by rwa [List.length_set] at hj
        rw [atBin_first] at hc
        exact Pl.firstG_before hc j hj' hji
      · rw [List.getElem_set_self]; exact (Pl.eqv_iff _ _).2 hy
    rw [Pl.put_set ordBin y L i hf, Pl.put_set ordBin x _ i hf2, List.set_set]
    rw [← hx]
    exact List.set_getElem_self hl
end Go.Proofs.YtjacodbmmhnopaaGreat
