/-
  THE SHAPE of the contracts of room's Load, Fits, Over, Resize, Limit (Cons); the law's texts; the examples of the chapter over it. (By wip/tools/gen_con11.py.)
-/
import Derived.Test.YthoblccmdadmmaaZRef
import Derived.Test.YthoblccmdadmmaaZRow
import Derived.Test.YthoblccmdadmmaaHBoth
namespace Go.Proofs.Ythoblccmdadmmaa
set_option linter.unusedVariables false
open Go.RowKit
open Pl (firstG findG putG It)

/-- What room's functions answer. -/
structure Cons : Prop where
  load : ∀ (h : Hs) (L : Nat → List (List Value)) (s : ByteArray) (w : World), HT h L w → Calls Try.prog 14 #[.agg h.cells, .string s] w fun e w' => e = .returned (.tuple #[.int .i64 (loadP (L 0) (L 4) s).1, .int .i64 (loadP (L 0) (L 4) s).2]) ∧ Below w.heap.size w w'
  fits : ∀ (h : Hs) (L : Nat → List (List Value)) (s t : ByteArray) (n : Int) (w : World), HT h L w → Wf n → Calls Try.prog 16 #[.agg h.cells, .string s, .string t, .int .i64 n] w fun e w' => e = .returned (.int .i64 (roomE (L 0) (L 3) (L 4) s t n : Nat)) ∧ Below w.heap.size w w'
  over : ∀ (h : Hs) (L : Nat → List (List Value)) (w : World), HT h L w → Calls Try.prog 19 #[.agg h.cells] w (TextsP (overL (L 0) (L 3) (L 4)) w)
  resize : ∀ (h : Hs) (L : Nat → List (List Value)) (t : ByteArray) (v u : Int) (w : World), HT h L w → h.n 0 ≤ 1000 → (h.n 0 ≤ h.c 0 ∧ h.c 0 ≤ 9223372036854775807) → Wf v → Wf u → Calls Try.prog 22 #[.agg h.cells, .string t, .int .i64 v, .int .i64 u] w (PutP 68 14 0 (resE (L 0) (L 3) (L 4) t v u) (resL (L 0) t v u) h w)
  limit : ∀ (h : Hs) (L : Nat → List (List Value)) (s : ByteArray) (v u : Int) (w : World), HT h L w → h.n 3 ≤ 1000 → (h.n 3 ≤ h.c 3 ∧ h.c 3 ≤ 9223372036854775807) → Wf v → Wf u → Calls Try.prog 24 #[.agg h.cells, .string s, .int .i64 v, .int .i64 u] w (PutP 57 8 3 (limE (L 0) (L 3) (L 4) s v u) (limL (L 3) s v u) h w)

theorem text_at {l : List ByteArray} {w : World} {B : Nat} {A : Option Addr} (h : Rd w B A (l.map Value.string)) {k : Nat} (hk : k < l.length) : ∃ b off, A = some ⟨b, off, none⟩ ∧ b < B ∧ w.cell? ⟨b, off + k, none⟩ = some (.string l[k]) := by
  obtain ⟨b, off, hA, hb, hc⟩ := h (by rw [List.length_map]; omega)
  exact ⟨b, off, hA, hb, hc k (.string l[k]) (by rw [List.getElem?_map, List.getElem?_eq_getElem hk]; rfl)⟩
set_option maxRecDepth 100000 in
/-- Two equal lists of texts. -/
theorem ltexts_any (A A2 : Option Addr) (n c n2 c2 : Nat) (l : List ByteArray) (w : World) (hn : n = l.length) (hn2 : n2 = l.length) (hl : l.length ≤ 1000000) (h1 : Rd w w.heap.size A (l.map Value.string)) (h2 : Rd w w.heap.size A2 (l.map Value.string)) :
    Calls Try.prog 18 #[.slice A n c, .slice A2 n2 c2] w fun e w' => e = .returned (.bool true) ∧ Below w.heap.size w w' := by
  obtain ⟨m, hm⟩ : ∃ m, l.length = m := ⟨_, rfl⟩
  rw [hm] at hn hn2 hl
  subst hn
  subst hn2
  have HN := Lib.hid hm
  have H1 := Lib.hid h1
  have H2 := Lib.hid h2
  clear hm h1 h2
  have B0 := Lib.hid (Below.refl w.heap.size w)
  go_enter Try.func18, Try.ntmps18
  go_wp2_with fail
  go_loopw [5] (fun i wr => ∃ k : Nat, k ≤ n2 ∧ i = .int .i64 (k : Int) ∧ Hid (Below w.heap.size w wr)) (fun i _ => n2 - (intOf i).toNat)
  case atStart => exact ⟨0, by omega, rfl, B0⟩
  case round =>
    obtain ⟨k, hk, rfl, hw⟩ := hrel
    by_cases hlt : k < n2
    · have hkl : k < l.length := by rw [HN.out]; exact hlt
      obtain ⟨b, off, hA, hb, hc⟩ := text_at (H1.out.below hw.out) hkl
      obtain ⟨b2, off2, hA2, hb2, hc2⟩ := text_at (H2.out.below hw.out) hkl
      obtain ⟨s, hs⟩ : ∃ s, l[k] = s := ⟨_, rfl⟩
      rw [hs] at hc hc2
      have hsz := hw.out.size
      have q1 : b < wr.heap.size := by omega
      have q2 : b2 < wr.heap.size := by omega
      have i1 : (0 : Int) ≤ (k : Int) := by omega
      have i2 : (k : Int) < (n2 : Int) := by omega
      subst hA
      subst hA2
      clear hs hkl hb hb2 hsz
      go_wp2_with fail
      go_quiet (fail)
      go_wp2_with fail
      go_roundw
      case rel => exact ⟨k + 1, by omega, by go_num, Lib.hid (below_drewN hw.out _)⟩
      case measure => simp [intOf]; omega
    · go_wp2_with fail
      go_ret
      exact ⟨rfl, hw.out⟩

/-- The examples' house. -/
def exI : It := ⟨⟨#[110, 117, 116]⟩, fun _ => ⟨#[]⟩, fun _ => 0, 3, 1, false, false, false⟩
def exB : Bn := ⟨⟨#[98]⟩, ⟨#[]⟩, 1, 0, 0, 10, 10, false⟩
def exQ : Qn := ⟨⟨#[98]⟩, ⟨#[110, 117, 116]⟩, ⟨#[]⟩, 1, 2, 0⟩
def exL0 : Nat → List (List Value) := fun i => if i = 0 then [exI.cells] else if i = 3 then [exB.cells] else if i = 4 then [exQ.cells] else []
set_option maxRecDepth 100000 in
set_option maxHeartbeats 1600000 in
theorem small_any (w : World) : Calls Try.prog 27 #[] w fun e w' => ∃ a : Hs, e = .returned (.agg a.cells) ∧ HT a exL0 w' ∧ Caps a ∧ a.z = 0 ∧ Below w.heap.size w w' := by
  have huh := Try.underlying37
  have HSH : Hid (∀ a : Hs, (Try.prog.info? 37).map (·.size) = some a.cells.size) := Lib.hid (fun a => by kernel_rfl)
  have H1C : Hid (∀ a : Hs, a.cells.all (·.oneCell') = true) := Lib.hid (fun a => by simp [Hs.cells, Value.oneCell'])
  go_enter Try.func27, Try.ntmps27
  go_wp2_with fail
  obtain ⟨a, ha⟩ : ∃ a : Hs, a = ⟨fun i => if i = 0 then some ⟨w.heap.size + 1, 0, none⟩ else if i = 3 then some ⟨w.heap.size + 1 + 1, 0, none⟩ else if i = 4 then some ⟨w.heap.size + 1 + 1 + 1, 0, none⟩ else none, fun i => if i = 0 ∨ i = 3 ∨ i = 4 then 1 else 0, fun i => if i = 0 ∨ i = 3 ∨ i = 4 then 1 else 0, 0⟩ := ⟨_, rfl⟩
  obtain ⟨W, hW⟩ : ∃ W, W = (((w.alloc (.cells a.cells 37)).alloc (.cells exI.cells.toArray 68)).alloc (.cells exB.cells.toArray 57)).alloc (.cells exQ.cells.toArray 61) := ⟨_, rfl⟩
  have hb : Below w.heap.size w W := by rw [hW]; exact ((((Below.refl _ _).alloc (Nat.le_refl _) _).alloc (by simp) _).alloc (by simp; omega) _).alloc (by simp; omega) _
  have hs : W.heap.size = w.heap.size + 4 := by rw [hW]; simp
  have b0 : W.heap[w.heap.size]? = some (.cells a.cells 37 (0, 0)) := by
    rw [hW]
    exact (Below.heap_alloc _ _ _ (by simp; omega)).trans ((Below.heap_alloc _ _ _ (by simp; omega)).trans ((Below.heap_alloc _ _ _ (by simp)).trans (heap_alloc_new _ _)))
  have b1 : W.heap[w.heap.size + 1]? = some (.cells exI.cells.toArray 68 (0, 0)) := by
    rw [hW]
    have hq := heap_alloc_new (w.alloc (.cells a.cells 37)) (.cells exI.cells.toArray 68)
    exact (Below.heap_alloc _ _ _ (by simp)).trans ((Below.heap_alloc _ _ _ (by simp)).trans (by simpa using hq))
  have b2 : W.heap[w.heap.size + 2]? = some (.cells exB.cells.toArray 57 (0, 0)) := by
    rw [hW]
    have hq := heap_alloc_new ((w.alloc (.cells a.cells 37)).alloc (.cells exI.cells.toArray 68)) (.cells exB.cells.toArray 57)
    exact (Below.heap_alloc _ _ _ (by simp)).trans (by simpa using hq)
  have b3 : W.heap[w.heap.size + 3]? = some (.cells exQ.cells.toArray 61 (0, 0)) := by
    rw [hW]
    have hq := heap_alloc_new (((w.alloc (.cells a.cells 37)).alloc (.cells exI.cells.toArray 68)).alloc (.cells exB.cells.toArray 57)) (.cells exQ.cells.toArray 61)
    simpa using hq
  have rd : ∀ (g : Nat) (x : List Value) (t : TypeId), g < W.heap.size → W.heap[g]? = some (.cells x.toArray t (0, 0)) → Rd W W.heap.size (some ⟨g, 0, none⟩) [x].flatten := fun g x t hg h _ => ⟨g, 0, rfl, hg, fun j u hu => by
    rw [Nat.zero_add, cell_of_block h, List.getElem?_toArray]
    simpa using hu⟩
  have ht : HT a exL0 W := fun i hi => by
    by_cases h0 : i = 0
    · subst h0; rw [ha]; exact ⟨rfl, by show (1 : Nat) ≤ _; omega, Things.one (It.fits _), rd _ _ _ (by omega) b1⟩
    · by_cases h3 : i = 3
      · subst h3; rw [ha]; exact ⟨rfl, by show (1 : Nat) ≤ _; omega, Things.one (Bn.fits _), rd _ _ _ (by omega) b2⟩
      · by_cases h4 : i = 4
        · subst h4; rw [ha]; exact ⟨rfl, by show (1 : Nat) ≤ _; omega, Things.one (Qn.fits _), rd _ _ _ (by omega) b3⟩
        · have e : exL0 i = [] := by unfold exL0; rw [if_neg h0, if_neg h3, if_neg h4]
          rw [e, ha]
          have hor : ¬ (i = 0 ∨ i = 3 ∨ i = 4) := by omega
          refine ⟨by simp only []; rw [if_neg hor]; rfl, by simp only []; rw [if_neg hor]; omega, fun e he => by simp at he, ?_⟩
          simp only []
          rw [if_neg h0, if_neg h3, if_neg h4]
          exact Rd.none_
  have hc : Caps a := fun i hi => by
    rw [ha]
    simp only []
    split <;> omega
  refine bodyPost_ret (results_cell_row rfl _ _ w.heap.size _ _ _ _ rfl (?_ : _ = some (Obj.cells a.cells 37 (0, 0))) huh rfl (HSH.out a)) rfl ?_
  · rw [hW, ha] at b0; rw [ha]; exact b0
  · subst hW
    subst ha
    exact ⟨_, rfl, ht, hc, rfl, hb⟩
set_option maxRecDepth 100000 in
set_option maxHeartbeats 3200000 in
/-- The chapter's examples hold. -/
theorem awake_any (C : Cons) (w : World) : Calls Try.prog 12 #[] w fun e w' => e = .returned (.bool true) ∧ Below w.heap.size w w' := by
  have huh := Try.underlying37
  have HSH : Hid (∀ a : Hs, (Try.prog.info? 37).map (·.size) = some a.cells.size) := Lib.hid (fun a => by kernel_rfl)
  have HSHL : Hid (∀ a : Hs, (Try.prog.info? 37).map (·.size) = some a.cells.toList.length) := Lib.hid (fun a => by kernel_rfl)
  have H1C : Hid (∀ a : Hs, a.cells.all (·.oneCell') = true) := Lib.hid (fun a => by simp [Hs.cells, Value.oneCell'])
  have E1 : Hid (((resE (exL0 0) (exL0 3) (exL0 4) ⟨#[110, 117, 116]⟩ 5 1 : Nat) : Int) = 0) := Lib.hid (by decide +kernel)
  have E2 : Hid (((resE (exL0 0) (exL0 3) (exL0 4) ⟨#[110, 117, 116]⟩ 6 1 : Nat) : Int) = 26) := Lib.hid (by decide +kernel)
  have E3 : Hid (((limE (exL0 0) (exL0 3) (exL0 4) ⟨#[98]⟩ 6 2 : Nat) : Int) = 0) := Lib.hid (by decide +kernel)
  have E4 : Hid (((limE (exL0 0) (exL0 3) (exL0 4) ⟨#[98]⟩ 5 9 : Nat) : Int) = 26) := Lib.hid (by decide +kernel)
  have E5 : Hid (((roomE (exL0 0) (exL0 3) (exL0 4) ⟨#[98]⟩ ⟨#[110, 117, 116]⟩ 1 : Nat) : Int) = 0) := Lib.hid (by decide +kernel)
  have E6 : Hid (((roomE (exL0 0) (exL0 3) (exL0 4) ⟨#[98]⟩ ⟨#[110, 117, 116]⟩ 2 : Nat) : Int) = 26) := Lib.hid (by decide +kernel)
  have E7 : Hid (loadP (exL0 0) (exL0 4) ⟨#[98]⟩ = (6, 2)) := Lib.hid (by decide +kernel)
  have E8 : Hid (overL (exL0 0) (exL0 3) (exL0 4) = []) := Lib.hid (by decide +kernel)
  have B0 := Lib.hid (Below.refl w.heap.size w)
  have HCO := Lib.hid C
  go_enter Try.func12, Try.ntmps12
  go_wp2_with fail
  refine (small_any _).mono ?_
  rintro e w1 ⟨a, rfl, hta, hca, hza, hb1⟩
  have B1 := Lib.hid (B0.out.trans (hb1.mono B0.out.size))
  have HT1 := Lib.hid hta
  have HCA := Lib.hid hca
  have HN0 : Hid (a.n 0 ≤ 1000) := Lib.hid (by rw [(hta 0 (by decide)).1]; decide)
  have HN3 : Hid (a.n 3 ≤ 1000) := Lib.hid (by rw [(hta 3 (by decide)).1]; decide)
  clear hb1 hta hca hza
  have HQ2 : Hid ((w1.alloc (.cells #[.slice none 0 0, .slice none 0 0, .slice none 0 0, .slice none 0 0, .slice none 0 0, .slice none 0 0, .slice none 0 0, .slice none 0 0, .slice none 0 0, .slice none 0 0, .slice none 0 0, .slice none 0 0, .slice none 0 0, .slice none 0 0, .int .i64 0] 37)).heap[w1.heap.size]? = some (.cells #[.slice none 0 0, .slice none 0 0, .slice none 0 0, .slice none 0 0, .slice none 0 0, .slice none 0 0, .slice none 0 0, .slice none 0 0, .slice none 0 0, .slice none 0 0, .slice none 0 0, .slice none 0 0, .slice none 0 0, .slice none 0 0, .int .i64 0] 37 (0, 0))) := Lib.hid (heap_alloc_new _ _)
  obtain ⟨w2, hw2⟩ : ∃ w', w' = (w1.alloc (.cells #[.slice none 0 0, .slice none 0 0, .slice none 0 0, .slice none 0 0, .slice none 0 0, .slice none 0 0, .slice none 0 0, .slice none 0 0, .slice none 0 0, .slice none 0 0, .slice none 0 0, .slice none 0 0, .slice none 0 0, .slice none 0 0, .int .i64 0] 37)).setRow w1.heap.size a.cells := ⟨_, rfl⟩
  have hb2 : Below w1.heap.size w1 w2 := by rw [hw2]; exact setRow_below ((Below.refl _ _).alloc (Nat.le_refl _) _) (Nat.le_refl _) _
  have B2 := Lib.hid (B1.out.trans (hb2.mono B1.out.size))
  have HT2 := Lib.hid (HT1.out.below hb2)
  have HA2 : Hid (w2.heap[w1.heap.size]? = some (.cells a.cells 37 (0, 0))) := Lib.hid (by rw [hw2]; exact setRow_heap _ _ _ _ _ _ HQ2.out)
  have HW2 := Lib.hid hw2
  clear hb2 hw2
  go_wp2_with (first
    | (refine wpList_store_row rfl 37 (.tmp 1) (.tmp 12) rfl w1.heap.size a.cells rfl rfl _ _ HQ2.out (HSH.out _) rfl (H1C.out _) ?_; rw [← HW2.out])
    | (refine wpList_load_row rfl 37 (.tmp 1) rfl w1.heap.size rfl _ _ _ _ HA2.out huh rfl (HSH.out _) ?_)
    | fail)
  have CL : Hid (∀ W, HT a exL0 W → Calls Try.prog 14 #[.agg a.cells, .string ⟨#[98]⟩] W fun e w' => e = .returned (.tuple #[.int .i64 6, .int .i64 2]) ∧ Below W.heap.size W w') := Lib.hid (fun W hW => by have := HCO.out.load a exL0 ⟨#[98]⟩ W hW; rwa [E7.out] at this)
  refine (CL.out _ HT2.out).mono ?_
  rintro e w3 ⟨rfl, hb3⟩
  have HA3 := Lib.hid ((hb3.block _ (lt_of_block HA2.out)).trans HA2.out)
  have B3 := Lib.hid (B2.out.trans (hb3.mono B2.out.size))
  have HT3 := Lib.hid (HT2.out.below hb3)
  clear hb3
  go_wp2_with (first
    | (refine wpList_load_row rfl 37 (.tmp 1) rfl w1.heap.size rfl _ _ _ _ HA3.out huh rfl (HSH.out _) ?_)
    | fail)
  refine (HCO.out.resize a exL0 ⟨#[110, 117, 116]⟩ 5 1 _ HT3.out HN0.out (HCA.out 0 (by decide)) ⟨by decide, by decide⟩ ⟨by decide, by decide⟩).mono ?_
  intro e w4 ha
  obtain ⟨b, rfl, hat, haz, hb4, hac⟩ := PutP.ht (i := 0) (by decide) (Things.put (HT3.out 0 (by decide)).2.2.1 (It.fits _)) (by rw [Pl.putG_len]; split <;> decide) HT3.out ha
  rw [E1.out]
  have HA4 := Lib.hid ((hb4.block _ (lt_of_block HA3.out)).trans HA3.out)
  have B4 := Lib.hid (B3.out.trans (hb4.mono B3.out.size))
  have HT4 := Lib.hid (HT3.out.below hb4)
  clear ha hat haz hb4 hac
  have HQ5 : Hid ((w4.alloc (.cells #[.slice none 0 0, .slice none 0 0, .slice none 0 0, .slice none 0 0, .slice none 0 0, .slice none 0 0, .slice none 0 0, .slice none 0 0, .slice none 0 0, .slice none 0 0, .slice none 0 0, .slice none 0 0, .slice none 0 0, .slice none 0 0, .int .i64 0] 37)).heap[w4.heap.size]? = some (.cells #[.slice none 0 0, .slice none 0 0, .slice none 0 0, .slice none 0 0, .slice none 0 0, .slice none 0 0, .slice none 0 0, .slice none 0 0, .slice none 0 0, .slice none 0 0, .slice none 0 0, .slice none 0 0, .slice none 0 0, .slice none 0 0, .int .i64 0] 37 (0, 0))) := Lib.hid (heap_alloc_new _ _)
  obtain ⟨w5, hw5⟩ : ∃ w', w' = (w4.alloc (.cells #[.slice none 0 0, .slice none 0 0, .slice none 0 0, .slice none 0 0, .slice none 0 0, .slice none 0 0, .slice none 0 0, .slice none 0 0, .slice none 0 0, .slice none 0 0, .slice none 0 0, .slice none 0 0, .slice none 0 0, .slice none 0 0, .int .i64 0] 37)).setRow w4.heap.size b.cells := ⟨_, rfl⟩
  have hb5 : Below w4.heap.size w4 w5 := by rw [hw5]; exact setRow_below ((Below.refl _ _).alloc (Nat.le_refl _) _) (Nat.le_refl _) _
  have HA5 := Lib.hid ((hb5.block _ (lt_of_block HA4.out)).trans HA4.out)
  have B5 := Lib.hid (B4.out.trans (hb5.mono B4.out.size))
  have HT5 := Lib.hid (HT4.out.below hb5)
  have HB5 : Hid (w5.heap[w4.heap.size]? = some (.cells b.cells 37 (0, 0))) := Lib.hid (by rw [hw5]; exact setRow_heap _ _ _ _ _ _ HQ5.out)
  have HW5 := Lib.hid hw5
  clear hb5 hw5
  go_wp2_with (first
    | (refine wpList_store_row rfl 37 (.tmp 4) (.tmp 21) rfl w4.heap.size b.cells rfl rfl _ _ HQ5.out (HSH.out _) rfl (H1C.out _) ?_; rw [← HW5.out])
    | (refine wpList_load_row rfl 37 (.tmp 1) rfl w1.heap.size rfl _ _ _ _ HA5.out huh rfl (HSH.out _) ?_)
    | fail)
  refine (HCO.out.resize a exL0 ⟨#[110, 117, 116]⟩ 6 1 _ HT5.out HN0.out (HCA.out 0 (by decide)) ⟨by decide, by decide⟩ ⟨by decide, by decide⟩).mono ?_
  intro e w6 ha
  obtain ⟨c, rfl, hat, haz, hb6, hac⟩ := PutP.ht (i := 0) (by decide) (Things.put (HT5.out 0 (by decide)).2.2.1 (It.fits _)) (by rw [Pl.putG_len]; split <;> decide) HT5.out ha
  rw [E2.out]
  have HA6 := Lib.hid ((hb6.block _ (lt_of_block HA5.out)).trans HA5.out)
  have HB6 := Lib.hid ((hb6.block _ (lt_of_block HB5.out)).trans HB5.out)
  have B6 := Lib.hid (B5.out.trans (hb6.mono B5.out.size))
  have HT6 := Lib.hid (HT5.out.below hb6)
  clear ha hat haz hb6 hac
  have HQ7 : Hid ((w6.alloc (.cells #[.slice none 0 0, .slice none 0 0, .slice none 0 0, .slice none 0 0, .slice none 0 0, .slice none 0 0, .slice none 0 0, .slice none 0 0, .slice none 0 0, .slice none 0 0, .slice none 0 0, .slice none 0 0, .slice none 0 0, .slice none 0 0, .int .i64 0] 37)).heap[w6.heap.size]? = some (.cells #[.slice none 0 0, .slice none 0 0, .slice none 0 0, .slice none 0 0, .slice none 0 0, .slice none 0 0, .slice none 0 0, .slice none 0 0, .slice none 0 0, .slice none 0 0, .slice none 0 0, .slice none 0 0, .slice none 0 0, .slice none 0 0, .int .i64 0] 37 (0, 0))) := Lib.hid (heap_alloc_new _ _)
  obtain ⟨w7, hw7⟩ : ∃ w', w' = (w6.alloc (.cells #[.slice none 0 0, .slice none 0 0, .slice none 0 0, .slice none 0 0, .slice none 0 0, .slice none 0 0, .slice none 0 0, .slice none 0 0, .slice none 0 0, .slice none 0 0, .slice none 0 0, .slice none 0 0, .slice none 0 0, .slice none 0 0, .int .i64 0] 37)).setRow w6.heap.size c.cells := ⟨_, rfl⟩
  have hb7 : Below w6.heap.size w6 w7 := by rw [hw7]; exact setRow_below ((Below.refl _ _).alloc (Nat.le_refl _) _) (Nat.le_refl _) _
  have HA7 := Lib.hid ((hb7.block _ (lt_of_block HA6.out)).trans HA6.out)
  have HB7 := Lib.hid ((hb7.block _ (lt_of_block HB6.out)).trans HB6.out)
  have B7 := Lib.hid (B6.out.trans (hb7.mono B6.out.size))
  have HT7 := Lib.hid (HT6.out.below hb7)
  have HC7 : Hid (w7.heap[w6.heap.size]? = some (.cells c.cells 37 (0, 0))) := Lib.hid (by rw [hw7]; exact setRow_heap _ _ _ _ _ _ HQ7.out)
  have HW7 := Lib.hid hw7
  clear hb7 hw7
  go_wp2_with (first
    | (refine wpList_store_row rfl 37 (.tmp 6) (.tmp 26) rfl w6.heap.size c.cells rfl rfl _ _ HQ7.out (HSH.out _) rfl (H1C.out _) ?_; rw [← HW7.out])
    | (refine wpList_load_row rfl 37 (.tmp 1) rfl w1.heap.size rfl _ _ _ _ HA7.out huh rfl (HSH.out _) ?_)
    | fail)
  refine (HCO.out.limit a exL0 ⟨#[98]⟩ 6 2 _ HT7.out HN3.out (HCA.out 3 (by decide)) ⟨by decide, by decide⟩ ⟨by decide, by decide⟩).mono ?_
  intro e w8 ha
  obtain ⟨d, rfl, hat, haz, hb8, hac⟩ := PutP.ht (i := 3) (by decide) (Things.put (HT7.out 3 (by decide)).2.2.1 (Bn.fits _)) (by rw [Pl.putG_len]; split <;> decide) HT7.out ha
  rw [E3.out]
  have HA8 := Lib.hid ((hb8.block _ (lt_of_block HA7.out)).trans HA7.out)
  have HB8 := Lib.hid ((hb8.block _ (lt_of_block HB7.out)).trans HB7.out)
  have HC8 := Lib.hid ((hb8.block _ (lt_of_block HC7.out)).trans HC7.out)
  have B8 := Lib.hid (B7.out.trans (hb8.mono B7.out.size))
  have HT8 := Lib.hid (HT7.out.below hb8)
  clear ha hat haz hb8 hac
  have HQ9 : Hid ((w8.alloc (.cells #[.slice none 0 0, .slice none 0 0, .slice none 0 0, .slice none 0 0, .slice none 0 0, .slice none 0 0, .slice none 0 0, .slice none 0 0, .slice none 0 0, .slice none 0 0, .slice none 0 0, .slice none 0 0, .slice none 0 0, .slice none 0 0, .int .i64 0] 37)).heap[w8.heap.size]? = some (.cells #[.slice none 0 0, .slice none 0 0, .slice none 0 0, .slice none 0 0, .slice none 0 0, .slice none 0 0, .slice none 0 0, .slice none 0 0, .slice none 0 0, .slice none 0 0, .slice none 0 0, .slice none 0 0, .slice none 0 0, .slice none 0 0, .int .i64 0] 37 (0, 0))) := Lib.hid (heap_alloc_new _ _)
  obtain ⟨w9, hw9⟩ : ∃ w', w' = (w8.alloc (.cells #[.slice none 0 0, .slice none 0 0, .slice none 0 0, .slice none 0 0, .slice none 0 0, .slice none 0 0, .slice none 0 0, .slice none 0 0, .slice none 0 0, .slice none 0 0, .slice none 0 0, .slice none 0 0, .slice none 0 0, .slice none 0 0, .int .i64 0] 37)).setRow w8.heap.size d.cells := ⟨_, rfl⟩
  have hb9 : Below w8.heap.size w8 w9 := by rw [hw9]; exact setRow_below ((Below.refl _ _).alloc (Nat.le_refl _) _) (Nat.le_refl _) _
  have HA9 := Lib.hid ((hb9.block _ (lt_of_block HA8.out)).trans HA8.out)
  have HB9 := Lib.hid ((hb9.block _ (lt_of_block HB8.out)).trans HB8.out)
  have HC9 := Lib.hid ((hb9.block _ (lt_of_block HC8.out)).trans HC8.out)
  have B9 := Lib.hid (B8.out.trans (hb9.mono B8.out.size))
  have HT9 := Lib.hid (HT8.out.below hb9)
  have HD9 : Hid (w9.heap[w8.heap.size]? = some (.cells d.cells 37 (0, 0))) := Lib.hid (by rw [hw9]; exact setRow_heap _ _ _ _ _ _ HQ9.out)
  have HW9 := Lib.hid hw9
  clear hb9 hw9
  go_wp2_with (first
    | (refine wpList_store_row rfl 37 (.tmp 8) (.tmp 31) rfl w8.heap.size d.cells rfl rfl _ _ HQ9.out (HSH.out _) rfl (H1C.out _) ?_; rw [← HW9.out])
    | (refine wpList_load_row rfl 37 (.tmp 1) rfl w1.heap.size rfl _ _ _ _ HA9.out huh rfl (HSH.out _) ?_)
    | fail)
  refine (HCO.out.limit a exL0 ⟨#[98]⟩ 5 9 _ HT9.out HN3.out (HCA.out 3 (by decide)) ⟨by decide, by decide⟩ ⟨by decide, by decide⟩).mono ?_
  intro e w10 ha
  obtain ⟨f, rfl, hat, haz, hb10, hac⟩ := PutP.ht (i := 3) (by decide) (Things.put (HT9.out 3 (by decide)).2.2.1 (Bn.fits _)) (by rw [Pl.putG_len]; split <;> decide) HT9.out ha
  rw [E4.out]
  have HA10 := Lib.hid ((hb10.block _ (lt_of_block HA9.out)).trans HA9.out)
  have HB10 := Lib.hid ((hb10.block _ (lt_of_block HB9.out)).trans HB9.out)
  have HC10 := Lib.hid ((hb10.block _ (lt_of_block HC9.out)).trans HC9.out)
  have HD10 := Lib.hid ((hb10.block _ (lt_of_block HD9.out)).trans HD9.out)
  have B10 := Lib.hid (B9.out.trans (hb10.mono B9.out.size))
  have HT10 := Lib.hid (HT9.out.below hb10)
  clear ha hat haz hb10 hac
  have HQ11 : Hid ((w10.alloc (.cells #[.slice none 0 0, .slice none 0 0, .slice none 0 0, .slice none 0 0, .slice none 0 0, .slice none 0 0, .slice none 0 0, .slice none 0 0, .slice none 0 0, .slice none 0 0, .slice none 0 0, .slice none 0 0, .slice none 0 0, .slice none 0 0, .int .i64 0] 37)).heap[w10.heap.size]? = some (.cells #[.slice none 0 0, .slice none 0 0, .slice none 0 0, .slice none 0 0, .slice none 0 0, .slice none 0 0, .slice none 0 0, .slice none 0 0, .slice none 0 0, .slice none 0 0, .slice none 0 0, .slice none 0 0, .slice none 0 0, .slice none 0 0, .int .i64 0] 37 (0, 0))) := Lib.hid (heap_alloc_new _ _)
  obtain ⟨w11, hw11⟩ : ∃ w', w' = (w10.alloc (.cells #[.slice none 0 0, .slice none 0 0, .slice none 0 0, .slice none 0 0, .slice none 0 0, .slice none 0 0, .slice none 0 0, .slice none 0 0, .slice none 0 0, .slice none 0 0, .slice none 0 0, .slice none 0 0, .slice none 0 0, .slice none 0 0, .int .i64 0] 37)).setRow w10.heap.size f.cells := ⟨_, rfl⟩
  have hb11 : Below w10.heap.size w10 w11 := by rw [hw11]; exact setRow_below ((Below.refl _ _).alloc (Nat.le_refl _) _) (Nat.le_refl _) _
  have HA11 := Lib.hid ((hb11.block _ (lt_of_block HA10.out)).trans HA10.out)
  have HB11 := Lib.hid ((hb11.block _ (lt_of_block HB10.out)).trans HB10.out)
  have HC11 := Lib.hid ((hb11.block _ (lt_of_block HC10.out)).trans HC10.out)
  have HD11 := Lib.hid ((hb11.block _ (lt_of_block HD10.out)).trans HD10.out)
  have B11 := Lib.hid (B10.out.trans (hb11.mono B10.out.size))
  have HT11 := Lib.hid (HT10.out.below hb11)
  have HF11 : Hid (w11.heap[w10.heap.size]? = some (.cells f.cells 37 (0, 0))) := Lib.hid (by rw [hw11]; exact setRow_heap _ _ _ _ _ _ HQ11.out)
  have HW11 := Lib.hid hw11
  clear hb11 hw11
  have CF1 : Hid (∀ W, HT a exL0 W → Calls Try.prog 16 #[.agg a.cells, .string ⟨#[98]⟩, .string ⟨#[110, 117, 116]⟩, .int .i64 1] W fun e w' => e = .returned (.int .i64 0) ∧ Below W.heap.size W w') := Lib.hid (fun W hW => by have := HCO.out.fits a exL0 ⟨#[98]⟩ ⟨#[110, 117, 116]⟩ 1 W hW ⟨by decide, by decide⟩; rwa [E5.out] at this)
  have CF2 : Hid (∀ W, HT a exL0 W → Calls Try.prog 16 #[.agg a.cells, .string ⟨#[98]⟩, .string ⟨#[110, 117, 116]⟩, .int .i64 2] W fun e w' => e = .returned (.int .i64 26) ∧ Below W.heap.size W w') := Lib.hid (fun W hW => by have := HCO.out.fits a exL0 ⟨#[98]⟩ ⟨#[110, 117, 116]⟩ 2 W hW ⟨by decide, by decide⟩; rwa [E6.out] at this)
  go_wp2_with (first
    | (refine wpList_store_row rfl 37 (.tmp 10) (.tmp 36) rfl w10.heap.size f.cells rfl rfl _ _ HQ11.out (HSH.out _) rfl (H1C.out _) ?_; rw [← HW11.out])
    | (refine BigFrame.wpList_want (by kernel_rfl) (fun K hK => Go.wp_load_mid 37 (.tmp 1) rfl w1.heap.size 0 rfl a.cells.toList _ (range_row0 HA11.out) huh rfl (HSHL.out _) (hK _ _ ?_)); clear hK K)
    | fail)
  refine (CF1.out _ HT11.out).mono ?_
  rintro e w12 ⟨rfl, hb12⟩
  have HA12 := Lib.hid ((hb12.block _ (lt_of_block HA11.out)).trans HA11.out)
  have HB12 := Lib.hid ((hb12.block _ (lt_of_block HB11.out)).trans HB11.out)
  have HC12 := Lib.hid ((hb12.block _ (lt_of_block HC11.out)).trans HC11.out)
  have HD12 := Lib.hid ((hb12.block _ (lt_of_block HD11.out)).trans HD11.out)
  have HF12 := Lib.hid ((hb12.block _ (lt_of_block HF11.out)).trans HF11.out)
  have B12 := Lib.hid (B11.out.trans (hb12.mono B11.out.size))
  have HT12 := Lib.hid (HT11.out.below hb12)
  clear hb12
  go_wp2_with (first
    | (refine BigFrame.wpList_want (by kernel_rfl) (fun K hK => Go.wp_load_mid 37 (.tmp 1) rfl w1.heap.size 0 rfl a.cells.toList _ (range_row0 HA12.out) huh rfl (HSHL.out _) (hK _ _ ?_)); clear hK K)
    | fail)
  refine (CF2.out _ HT12.out).mono ?_
  rintro e w13 ⟨rfl, hb13⟩
  have HA13 := Lib.hid ((hb13.block _ (lt_of_block HA12.out)).trans HA12.out)
  have HB13 := Lib.hid ((hb13.block _ (lt_of_block HB12.out)).trans HB12.out)
  have HC13 := Lib.hid ((hb13.block _ (lt_of_block HC12.out)).trans HC12.out)
  have HD13 := Lib.hid ((hb13.block _ (lt_of_block HD12.out)).trans HD12.out)
  have HF13 := Lib.hid ((hb13.block _ (lt_of_block HF12.out)).trans HF12.out)
  have B13 := Lib.hid (B12.out.trans (hb13.mono B12.out.size))
  have HT13 := Lib.hid (HT12.out.below hb13)
  clear hb13
  go_wp2_with (first
    | (refine BigFrame.wpList_want (by kernel_rfl) (fun K hK => Go.wp_load_mid 37 (.tmp 1) rfl w1.heap.size 0 rfl a.cells.toList _ (range_row0 HA13.out) huh rfl (HSHL.out _) (hK _ _ ?_)); clear hK K)
    | fail)
  refine (HCO.out.over a exL0 _ HT13.out).mono ?_
  rintro e wn ⟨A, n, c, rfl, hn, _, _, _, hbn⟩
  rw [E8.out] at hn
  obtain rfl : n = 0 := hn
  have BN := Lib.hid (B13.out.trans (hbn.mono B13.out.size))
  clear hbn
  go_wp2_with fail
  go_ret
  exact ⟨rfl, BN.out⟩
end Go.Proofs.Ythoblccmdadmmaa
