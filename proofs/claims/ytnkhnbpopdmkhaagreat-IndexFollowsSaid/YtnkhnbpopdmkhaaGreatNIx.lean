/-
  THE CODE'S INDEX IN MEMORY (IX0): a struct that holds a map of items to lists; CONTRACTS of New and Pick, of Follow and Pick on nil.
-/
import Derived.Test.YtnkhnbpopdmkhaaGreatNMap
import Derived.Test.YtnkhnbpopdmkhaaGreatNNaive
import Derived.Carry
namespace Go.Proofs.YtnkhnbpopdmkhaaGreat
set_option linter.unusedVariables false
open Go.RowKit Go.Maps
open Pl (firstG findG putG It)

/-- Block g holds the list S of stands (which is not empty), of the capacity c. -/
def RowS (w : World) (g c : Nat) (S : List (List Value)) : Prop := w.ownsRow 0 112 8 (.slice (some ⟨g, 0, none⟩) S.length c) S.length S.flatten
/-- In w, at block b, stands the index of a house of lists L, of the blocks X. -/
structure IX0 (w : World) (b : Nat) (X : Nat → Prop) (L : Nat → List (List Value)) : Prop where
  ex : ∃ (mb : Nat) (f : Lit → Option Value) (G C : ByteArray → Nat), w.heap[b]? = some (.cells #[.map (some mb)] 120 (0, 0)) ∧ GM 9 w mb 1000 f ∧ X mb ∧
    (∀ s, idxL L s = [] → f (sk s) = none) ∧
    (∀ s, idxL L s ≠ [] → f (sk s) = some (.slice (some ⟨G s, 0, none⟩) (idxL L s).length (C s)) ∧ RowS w (G s) (C s) (idxL L s) ∧ X (G s)) ∧
    (∀ s t, idxL L s ≠ [] → idxL L t ≠ [] → G s = G t → s = t)
  xb : X b
  lt : ∀ k, X k → k < w.heap.size
  le : (L 4).length ≤ 1000
  md : ∀ s, ∀ e ∈ idxL L s, (sdOf e).mild
theorem row_kept {w w' : World} {B T sz g n c : Nat} {xs : List Value} (h : w.ownsRow B T sz (.slice (some ⟨g, 0, none⟩) n c) n xs) (e : w'.heap[g]? = w.heap[g]?) : w'.ownsRow B T sz (.slice (some ⟨g, 0, none⟩) n c) n xs := by
  refine ⟨h.1, h.2.imp id fun ⟨g', cap, cur, hv, hb, hh, hr⟩ => ?_⟩
  have hg : g = g' := by injection hv with hv _ _; injection hv with hv; injection hv
  subst hg
  exact ⟨g, cap, cur, hv, hb, e.trans hh, hr⟩
theorem ix_keep (w w' : World) (b : Nat) (X : Nat → Prop) (L : Nat → List (List Value)) (h : IX0 w b X L) (hk : ∀ k, X k → w'.heap[k]? = w.heap[k]?) : IX0 w' b X L := by
  obtain ⟨mb, f, G, C, h1, h2, h3, h4, h5, h6⟩ := h.ex
  refine ⟨⟨mb, f, G, C, (hk b h.xb).trans h1, h2.kept (hk mb h3), h3, h4, fun s hs => ⟨(h5 s hs).1, row_kept (h5 s hs).2.1 (hk _ (h5 s hs).2.2), (h5 s hs).2.2⟩, h6⟩, h.xb, fun k hx => ?_, h.le, h.md⟩
  have h7 := hk k hx
  rw [Array.getElem?_eq_getElem (h.lt k hx)] at h7
  exact (Array.getElem?_eq_some_iff.1 h7).1
theorem idx_zero (s : ByteArray) : idxL (fun _ => []) s = [] := List.length_eq_zero_iff.1 (Nat.le_zero.1 (idx_len (fun _ => []) s))
set_option maxRecDepth 100000 in
set_option maxHeartbeats 1600000 in
theorem cnew (w : World) : Calls Tryz.prog 14 #[] w fun e w' => Below w.heap.size w w' ∧ ∃ (b : Nat) (X : Nat → Prop), e = .returned (.pointer (some ⟨b, 0, none⟩)) ∧ IX0 w' b X (fun _ => []) ∧ ∀ k, X k → w.heap.size ≤ k := by
  obtain ⟨w1, hw1⟩ : ∃ W, W = (w.alloc (.map #[] 0)).alloc (.cells #[.map (some w.heap.size)] 120) := ⟨_, rfl⟩
  have H1 : Hid (Below w.heap.size w w1) := Lib.hid (by rw [hw1]; exact ((Below.refl _ _).alloc (Nat.le_refl _) _).alloc (by simp) _)
  have HI : Hid (IX0 w1 (w.heap.size + 1) (fun k => k = w.heap.size ∨ k = w.heap.size + 1) (fun _ => [])) := Lib.hid (by
    have hg := GM.made 9 w 1000
    have e1 : w1.heap[w.heap.size]? = (w.alloc (.map #[] 0)).heap[w.heap.size]? := by rw [hw1]; exact Below.heap_alloc _ _ _ (by simp)
    have e2 : w1.heap[w.heap.size + 1]? = some (.cells #[.map (some w.heap.size)] 120 (0, 0)) := by
      rw [hw1]
      have := heap_alloc_new (w.alloc (.map #[] 0)) (.cells #[.map (some w.heap.size)] 120)
      simpa using this
    exact ⟨⟨w.heap.size, fun _ => none, fun _ => 0, fun _ => 0, e2, hg.kept e1, .inl rfl, fun _ _ => rfl, fun s h => absurd (idx_zero s) h, fun s t h => absurd (idx_zero s) h⟩, .inr rfl, fun k hk => by rw [hw1]; simp; omega, Nat.zero_le _, fun s e he => by rw [idx_zero] at he; cases he⟩)
  have HW := Lib.hid hw1
  clear hw1
  have hmm := @run_makeMap Tryz.prog
  go_enter Tryz.func14, Tryz.ntmps14
  go_wp2_with fail
  rw [← HW.out]
  go_ret
  exact ⟨H1.out, w.heap.size + 1, _, rfl, HI.out, fun k hk => by omega⟩
set_option maxRecDepth 100000 in
set_option maxHeartbeats 1600000 in
theorem cpick (L : Nat → List (List Value)) (b : Nat) (X : Nat → Prop) (s i : ByteArray) (n : Int) (w : World) (h : IX0 w b X L) (hi : i.size ≤ 9223372036854775807) (hn : Wf n) : Calls Tryz.prog 16 #[.pointer (some ⟨b, 0, none⟩), .string s, .string i, .int .i64 n] w (TakesP (pickL L s i n) w) := by
  obtain ⟨mb, f, G, C, h1, h2, h3, h4, h5, h6⟩ := h.ex
  have hlk := h2.look (t := 118) keyedS Tryz.underlying118 (z := .slice none 0 0) (Tryz.zeroValue108 w) (key_s hi)
  obtain ⟨A, m, c, hv, hm, hr⟩ : ∃ A m c, (f (sk i)).getD (.slice none 0 0) = .slice A m c ∧ m = (idxL L i).length ∧ Rd w w.heap.size A (idxL L i).flatten := by
    by_cases hne : idxL L i = []
    · exact ⟨none, 0, 0, by rw [h4 i hne]; rfl, by rw [hne]; rfl, by rw [hne]; exact fun hx => absurd hx (by simp)⟩
    · exact ⟨_, _, _, by rw [(h5 i hne).1]; rfl, rfl, Rd.of_own (h5 i hne).2.1⟩
  rw [hv] at hlk
  have HC := Lib.hid (ctakes A m c (idxL L i) s n w hm (by have := idx_len L i; have := h.le; omega) (things_st _ _ _) (idx_free L i) hr hn)
  have HE := Lib.hid (pick_idx L s i n)
  rw [← HE.out]
  have hc : w.cell? ⟨b, 0, none⟩ = some (.map (some mb)) := by rw [cell_of_block h1]; rfl
  have hb := lt_of_block h1
  have HLK := Lib.hid hlk
  clear h h1 h2 h3 h4 h5 h6 hv hm hr
  go_enter Tryz.func16, Tryz.ntmps16
  go_wp2_with fail
  refine HC.out.mono ?_
  rintro e w1 ⟨hb1, A1, c1, rfl, hr1⟩
  have HB := Lib.hid hb1
  have HR := Lib.hid hr1
  clear hb1 hr1 hc hb hlk
  go_wp2_with fail
  go_ret
  exact ⟨HB.out, A1, c1, rfl, HR.out⟩
set_option maxRecDepth 100000 in
theorem cnilp (s i : ByteArray) (n : Int) (w : World) : Calls Tryz.prog 16 #[.pointer none, .string s, .string i, .int .i64 n] w (TakesP [] w) := by
  have HB := Lib.hid (Below.refl w.heap.size w)
  have HR : Hid (Rd w w.heap.size none ([] : List (List Value)).flatten) := Lib.hid (fun hx => absurd hx (by simp))
  go_enter Tryz.func16, Tryz.ntmps16
  go_wp2_with fail
  go_ret
  exact ⟨HB.out, none, 0, rfl, HR.out⟩
set_option maxRecDepth 100000 in
theorem cnilf (h : Hs) (w : World) : Calls Tryz.prog 15 #[.pointer none, .agg h.cells] w fun e w' => e = .returned (.tuple #[]) ∧ Below w.heap.size w w' := by
  have HB : Hid (Below w.heap.size w (w.alloc (.cells h.cells 37))) := Lib.hid ((Below.refl _ _).alloc (Nat.le_refl _) _)
  go_enter Tryz.func15, Tryz.ntmps15
  go_wp2_with fail
  (try simp only [Exit.inBlock, Exit.then])
  refine bodyPost_ret (results_none rfl _ _ _) rfl ?_
  exact ⟨rfl, HB.out⟩
end Go.Proofs.YtnkhnbpopdmkhaaGreat
