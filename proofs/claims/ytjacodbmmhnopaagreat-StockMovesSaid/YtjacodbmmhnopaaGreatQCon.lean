/-
  THE SHAPE of the contracts of stock's functions (Cons); the examples of the chapter over it. (By wip/tools/gen_con12.py.)
-/
import Derived.Test.YtjacodbmmhnopaaGreatQRef
import Derived.Test.YtjacodbmmhnopaaGreatIRow
import Derived.Test.YtjacodbmmhnopaaGreatHBoth
import Derived.Deep.RegionHeld3
namespace Go.Proofs.YtjacodbmmhnopaaGreat
set_option linter.unusedVariables false
open Go.RowKit
open Pl (firstG findG putG dropG It)

/-- A number as a machine holds it. -/
def Wf (z : Int) : Prop := -9223372036854775808 ≤ z ∧ z ≤ 9223372036854775807
/-- How many there are of an item and lot. -/
def totQ (L : List (List Value)) (s t : ByteArray) : Int := L.foldl (fun n q => if (Pl.eqv (qnOf q).item s && Pl.eqv (qnOf q).lot t) = true then wrap64 (n + (qnOf q).qty) else n) 0
/-- What stock's functions answer. -/
structure Cons : Prop where
  find : ∀ (h : Hs) (L : Nat → List (List Value)) (kb ki kl : ByteArray) (ks : Int) (w : World), HT h L w → Calls Tryz.prog 17 #[.agg h.cells, .agg #[.string kb, .string ki, .string kl, .int .i64 ks]] w fun e w' => e = .returned (.tuple #[.agg (gotQ (L 4) (Ky.mk kb ki kl ks)).toArray, .bool (atQ (L 4) (Ky.mk kb ki kl ks)).isSome]) ∧ Below w.heap.size w w'
  total : ∀ (h : Hs) (L : Nat → List (List Value)) (s t : ByteArray) (w : World), HT h L w → Calls Tryz.prog 18 #[.agg h.cells, .string s, .string t] w fun e w' => e = .returned (.int .i64 (totQ (L 4) s t)) ∧ Below w.heap.size w w'
  take : ∀ (h : Hs) (L : Nat → List (List Value)) (kb ki kl : ByteArray) (ks : Int) (n : Int) (w : World), HT h L w → h.n 4 ≤ 1002 → (h.n 4 ≤ h.c 4 ∧ h.c 4 ≤ 9223372036854775807) → Calls Tryz.prog 15 #[.agg h.cells, .agg #[.string kb, .string ki, .string kl, .int .i64 ks], .int .i64 n] w (PutP 55 6 4 (takeE (L 4) (Ky.mk kb ki kl ks) n) (takeL (L 4) (Ky.mk kb ki kl ks) n) h w)
  put : ∀ (h : Hs) (L : Nat → List (List Value)) (kb ki kl : ByteArray) (ks : Int) (n : Int) (w : World), HT h L w → h.n 4 ≤ 1002 → (h.n 4 ≤ h.c 4 ∧ h.c 4 ≤ 9223372036854775807) → Calls Tryz.prog 36 #[.agg h.cells, .agg #[.string kb, .string ki, .string kl, .int .i64 ks], .int .i64 n] w (PutP 55 6 4 (putE (L 4) (Ky.mk kb ki kl ks) n) (putL (L 4) (Ky.mk kb ki kl ks) n) h w)
  hold : ∀ (h : Hs) (L : Nat → List (List Value)) (kb ki kl : ByteArray) (ks : Int) (n : Int) (w : World), HT h L w → h.n 4 ≤ 1002 → (h.n 4 ≤ h.c 4 ∧ h.c 4 ≤ 9223372036854775807) → Calls Tryz.prog 16 #[.agg h.cells, .agg #[.string kb, .string ki, .string kl, .int .i64 ks], .int .i64 n] w (PutP 55 6 4 (holdE (L 4) (Ky.mk kb ki kl ks) n) (holdL (L 4) (Ky.mk kb ki kl ks) n) h w)
  move : ∀ (h : Hs) (L : Nat → List (List Value)) (kb ki kl : ByteArray) (ks : Int) (n : Int) (t : ByteArray) (w : World), HT h L w → h.n 4 ≤ 1002 → (h.n 4 ≤ h.c 4 ∧ h.c 4 ≤ 9223372036854775807) → Calls Tryz.prog 8 #[.agg h.cells, .agg #[.string kb, .string ki, .string kl, .int .i64 ks], .int .i64 n, .string t] w (PutP 55 6 4 (moveE (L 0) (L 3) (L 4) (Ky.mk kb ki kl ks) n t) (moveL (L 4) (Ky.mk kb ki kl ks) n t) h w)
  stat : ∀ (h : Hs) (L : Nat → List (List Value)) (kb ki kl : ByteArray) (ks : Int) (n st : Int) (w : World), HT h L w → h.n 4 ≤ 1002 → (h.n 4 ≤ h.c 4 ∧ h.c 4 ≤ 9223372036854775807) → Calls Tryz.prog 11 #[.agg h.cells, .agg #[.string kb, .string ki, .string kl, .int .i64 ks], .int .i64 n, .int .i64 st] w (PutP 55 6 4 (statE (L 3) (L 4) (Ky.mk kb ki kl ks) n st) (statL (L 4) (Ky.mk kb ki kl ks) n st) h w)

theorem putL_things {L : List (List Value)} (h : Things kQuant L) (k : Ky) (n : Int) : Things kQuant (putL L k n) := upQ_things h _
theorem takeL_things {L : List (List Value)} (h : Things kQuant L) (k : Ky) (n : Int) : Things kQuant (takeL L k n) := upQ_things h _
theorem holdL_things {L : List (List Value)} (h : Things kQuant L) (k : Ky) (n : Int) : Things kQuant (holdL L k n) := upQ_things h _
theorem moveL_things {L : List (List Value)} (h : Things kQuant L) (k : Ky) (n : Int) (t : ByteArray) : Things kQuant (moveL L k n t) := putL_things (takeL_things h _ _) _ _
theorem statL_things {L : List (List Value)} (h : Things kQuant L) (k : Ky) (n st : Int) : Things kQuant (statL L k n st) := putL_things (takeL_things h _ _) _ _
theorem putL_len (L : List (List Value)) (k : Ky) (n : Int) : (putL L k n).length ≤ L.length + 1 := upQ_len _ _
theorem takeL_len (L : List (List Value)) (k : Ky) (n : Int) : (takeL L k n).length ≤ L.length + 1 := upQ_len _ _
theorem holdL_len (L : List (List Value)) (k : Ky) (n : Int) : (holdL L k n).length ≤ L.length + 1 := upQ_len _ _
theorem moveL_len (L : List (List Value)) (k : Ky) (n : Int) (t : ByteArray) : (moveL L k n t).length ≤ L.length + 2 := by have h1 := putL_len (takeL L k n) ⟨t, k.item, k.lot, k.st⟩ n; have h2 := takeL_len L k n; unfold moveL; omega
theorem statL_len (L : List (List Value)) (k : Ky) (n st : Int) : (statL L k n st).length ≤ L.length + 2 := by have h1 := putL_len (takeL L k n) ⟨k.bin, k.item, k.lot, st⟩ n; have h2 := takeL_len L k n; unfold statL; omega
theorem holdL_def : True := trivial
/-- The examples' house. -/
def exB : Bn := ⟨⟨#[98]⟩, ⟨#[]⟩, 1, 0, 0, 10, 10, false⟩
def exQ : Qn := ⟨⟨#[98]⟩, ⟨#[110, 117, 116]⟩, ⟨#[]⟩, 1, 5, 2⟩
def exL0 : Nat → List (List Value) := fun i => if i = 3 then [exB.cells] else if i = 4 then [exQ.cells] else []
set_option maxRecDepth 100000 in
theorem nuts_any (w : World) : Calls Tryz.prog 14 #[] w fun e w' => e = .returned (.agg #[.string ⟨#[98]⟩, .string ⟨#[110, 117, 116]⟩, .string ⟨#[]⟩, .int .i64 1]) ∧ Below w.heap.size w w' := by
  have huk := Tryz.underlying39
  have HSK : Hid ((Tryz.prog.info? 39).map (·.size) = some (#[.string ⟨#[98]⟩, .string ⟨#[110, 117, 116]⟩, .string ⟨#[]⟩, .int .i64 1] : Array Value).size) := Lib.hid (by kernel_rfl)
  go_enter Tryz.func14, Tryz.ntmps14
  go_wp2_with fail
  exact bodyPost_ret (results_cell_row rfl _ _ w.heap.size _ _ _ _ rfl (heap_alloc_new _ _) huk rfl HSK.out) rfl ⟨rfl, (Below.refl _ _).alloc (Nat.le_refl _) _⟩
set_option maxRecDepth 100000 in
set_option maxHeartbeats 6400000 in
/-- The chapter's examples hold. -/
theorem awake_any (C : Cons) (w : World) : Calls Tryz.prog 6 #[] w fun e w' => e = .returned (.bool true) ∧ Below w.heap.size w w' := by
  have huh := Tryz.underlying37
  have HSH : Hid (∀ a : Hs, (Tryz.prog.info? 37).map (·.size) = some a.cells.size) := Lib.hid (fun a => by kernel_rfl)
  have HSHL : Hid (∀ a : Hs, (Tryz.prog.info? 37).map (·.size) = some a.cells.toList.length) := Lib.hid (fun a => by kernel_rfl)
  have H1C : Hid (∀ a : Hs, a.cells.all (·.oneCell') = true) := Lib.hid (fun a => by simp [Hs.cells, Value.oneCell'])
  have E1 : Hid (((takeE (exL0 4) (Ky.mk ⟨#[98]⟩ ⟨#[110, 117, 116]⟩ ⟨#[]⟩ 1) 4 : Nat) : Int) = 28) := Lib.hid (by decide +kernel)
  have E2 : Hid (((takeE (exL0 4) (Ky.mk ⟨#[98]⟩ ⟨#[110, 117, 116]⟩ ⟨#[]⟩ 1) 6 : Nat) : Int) = 27) := Lib.hid (by decide +kernel)
  have E3 : Hid (((takeE (exL0 4) (Ky.mk ⟨#[98]⟩ ⟨#[110, 117, 116]⟩ ⟨#[]⟩ 1) 3 : Nat) : Int) = 0) := Lib.hid (by decide +kernel)
  have E4 : Hid (((holdE (exL0 4) (Ky.mk ⟨#[98]⟩ ⟨#[110, 117, 116]⟩ ⟨#[]⟩ 1) 4 : Nat) : Int) = 28) := Lib.hid (by decide +kernel)
  have E5 : Hid (((holdE (exL0 4) (Ky.mk ⟨#[98]⟩ ⟨#[110, 117, 116]⟩ ⟨#[]⟩ 1) (-3) : Nat) : Int) = 28) := Lib.hid (by decide +kernel)
  have E6 : Hid (((moveE (exL0 0) (exL0 3) (exL0 4) (Ky.mk ⟨#[98]⟩ ⟨#[110, 117, 116]⟩ ⟨#[]⟩ 1) 3 ⟨#[98]⟩ : Nat) : Int) = 1) := Lib.hid (by decide +kernel)
  have HCO := Lib.hid C
  have HNU : Hid (∀ W, Calls Tryz.prog 14 #[] W fun e w' => e = .returned (.agg #[.string ⟨#[98]⟩, .string ⟨#[110, 117, 116]⟩, .string ⟨#[]⟩, .int .i64 1]) ∧ Below W.heap.size W w') := Lib.hid nuts_any
  go_enter Tryz.func6, Tryz.ntmps6
  go_wp2_with fail
  have hba : Below w.heap.size w (w.alloc (.cells exB.cells.toArray 52)) := (Below.refl _ _).alloc (Nat.le_refl _) _
  have ba : (w.alloc (.cells exB.cells.toArray 52)).heap[w.heap.size]? = some (.cells exB.cells.toArray 52 (0, 0)) := heap_alloc_new _ _
  refine (HNU.out _).mono ?_
  rintro e w1 ⟨rfl, hb1⟩
  have hb1 : Below (w.alloc (.cells exB.cells.toArray 52)).heap.size (w.alloc (.cells exB.cells.toArray 52)) w1 := hb1
  have B1 := Lib.hid (hba.trans (hb1.mono hba.size))
  have bb := (hb1.block _ (lt_of_block ba)).trans ba
  have hlt1 : w.heap.size < w1.heap.size := lt_of_block bb
  clear hb1 hba ba
  obtain ⟨a, ha⟩ : ∃ a : Hs, a = ⟨fun i => if i = 3 then some ⟨w.heap.size, 0, none⟩ else if i = 4 then some ⟨w1.heap.size, 0, none⟩ else none, fun i => if i = 3 ∨ i = 4 then 1 else 0, fun i => if i = 3 ∨ i = 4 then 1 else 0, 0⟩ := ⟨_, rfl⟩
  obtain ⟨w2, hw2⟩ : ∃ W, W = (w1.alloc (.cells #[.string ⟨#[98]⟩, .string ⟨#[110, 117, 116]⟩, .string ⟨#[]⟩, .int .i64 1, .int .i64 5, .int .i64 2] 55)).alloc (.cells #[.slice none 0 0, .slice none 0 0, .slice none 0 0, .slice (some ⟨w.heap.size, 0, none⟩) 1 1, .slice (some ⟨w1.heap.size, 0, none⟩) 1 1, .slice none 0 0, .slice none 0 0, .slice none 0 0, .slice none 0 0, .slice none 0 0, .slice none 0 0, .slice none 0 0, .slice none 0 0, .slice none 0 0, .int .i64 0] 37) := ⟨_, rfl⟩
  have hb2 : Below w1.heap.size w1 w2 := by rw [hw2]; exact ((Below.refl _ _).alloc (Nat.le_refl _) _).alloc (by simp) _
  have B2 := Lib.hid (B1.out.trans (hb2.mono B1.out.size))
  have HA2 : Hid (w2.heap[w1.heap.size + 1]? = some (.cells a.cells 37 (0, 0))) := Lib.hid (by
    rw [hw2, ha]
    have hq := heap_alloc_new (w1.alloc (.cells #[.string ⟨#[98]⟩, .string ⟨#[110, 117, 116]⟩, .string ⟨#[]⟩, .int .i64 1, .int .i64 5, .int .i64 2] 55)) (.cells #[.slice none 0 0, .slice none 0 0, .slice none 0 0, .slice (some ⟨w.heap.size, 0, none⟩) 1 1, .slice (some ⟨w1.heap.size, 0, none⟩) 1 1, .slice none 0 0, .slice none 0 0, .slice none 0 0, .slice none 0 0, .slice none 0 0, .slice none 0 0, .slice none 0 0, .slice none 0 0, .slice none 0 0, .int .i64 0] 37)
    rw [show (w1.alloc (.cells #[.string ⟨#[98]⟩, .string ⟨#[110, 117, 116]⟩, .string ⟨#[]⟩, .int .i64 1, .int .i64 5, .int .i64 2] 55)).heap.size = w1.heap.size + 1 from by simp] at hq
    exact hq)
  have b4 : w2.heap[w1.heap.size]? = some (.cells exQ.cells.toArray 55 (0, 0)) := by rw [hw2]; exact (Below.heap_alloc _ _ _ (by simp)).trans (heap_alloc_new _ _)
  have b3 : w2.heap[w.heap.size]? = some (.cells exB.cells.toArray 52 (0, 0)) := (hb2.block _ hlt1).trans bb
  have hs2 : w2.heap.size = w1.heap.size + 2 := by rw [hw2]; simp
  have rd : ∀ (g : Nat) (x : List Value) (t : TypeId), g < w2.heap.size → w2.heap[g]? = some (.cells x.toArray t (0, 0)) → Rd w2 w2.heap.size (some ⟨g, 0, none⟩) [x].flatten := fun g x t hg h _ => ⟨g, 0, rfl, hg, fun j u hu => by
    rw [Nat.zero_add, cell_of_block h, List.getElem?_toArray]
    simpa using hu⟩
  have HT2 : Hid (HT a exL0 w2) := Lib.hid (fun i hi => by
    by_cases h3 : i = 3
    · subst h3; rw [ha]; exact ⟨rfl, by show (1 : Nat) ≤ _; omega, Things.one (Bn.fits _), rd _ _ _ (by omega) b3⟩
    · by_cases h4 : i = 4
      · subst h4; rw [ha]; exact ⟨rfl, by show (1 : Nat) ≤ _; omega, Things.one (Qn.fits _), rd _ _ _ (by omega) b4⟩
      · have e : exL0 i = [] := by unfold exL0; rw [if_neg h3, if_neg h4]
        rw [e, ha]
        have hor : ¬ (i = 3 ∨ i = 4) := by omega
        refine ⟨by simp only []; rw [if_neg hor]; rfl, by simp only []; rw [if_neg hor]; omega, fun e he => by simp at he, ?_⟩
        simp only []
        rw [if_neg h3, if_neg h4]
        exact Rd.none_)
  have HCA : Hid (Caps a) := Lib.hid (fun i hi => by rw [ha]; simp only []; split <;> omega)
  have HN4 : Hid (a.n 4 ≤ 1002) := Lib.hid (by rw [ha]; show (1 : Nat) ≤ 1002; omega)
  have HW2 := Lib.hid hw2
  clear ha hw2 hb2 b3 b4 hs2 rd bb hlt1
  go_upto_region 2 with fail
  rw [← HW2.out]
  go_wp2_with fail
  have HST : Hid (∀ X, Below w2.heap.size w2 X → X.rangeAt (w1.heap.size + 1) 0 a.cells.toList) := Lib.hid (fun X hX => range_row0 ((hX.block _ (lt_of_block HA2.out)).trans HA2.out))
  apply region_to2 (R := fun g (p : Hs) W => Hid (Below w2.heap.size w2 W ∧ w2.heap.size ≤ g ∧ W.heap[g]? = some (.cells p.cells 37 (0, 0)) ∧ (HT p (setE (takeE (exL0 4) (Ky.mk ⟨#[98]⟩ ⟨#[110, 117, 116]⟩ ⟨#[]⟩ 1) 4) exL0 4 (takeL (exL0 4) (Ky.mk ⟨#[98]⟩ ⟨#[110, 117, 116]⟩ ⟨#[]⟩ 1) 4)) W)))
  · refine wp_region_held_drew (S := (fun w' => w'.rangeAt (w1.heap.size + 1) 0 a.cells.toList)) (by kernel_rfl) (HST.out _ (Below.refl w2.heap.size w2).drew) (fun dd0 => ?_)
    refine wpAnyH_take (i := 0) (v := .agg a.cells) rfl (by kernel_rfl) (by kernel_rfl) (by kernel_rfl) (fun _ _ _ h => nomatch h.1) (yieldsIf_load_mid (by kernel_rfl) 37 (.tmp 1) rfl (w1.heap.size + 1) 0 rfl a.cells.toList _ (fun w h => h) huh rfl (HSHL.out _)) (by assumption) ?_
    (try simp only [Act.put, List.getElem_toArray, List.getElem_cons_zero, List.setIfInBounds_toArray, List.set_cons_zero, List.set_cons_succ])
    refine wpAnyH_ready (rs := [1, 6]) (by kernel_rfl) (by simp) ?_
    refine AllReadyH.cons rfl (fun K' hK => ?_) (AllReadyH.cons rfl (fun K' hK => ?_) AllReadyH.nil)
    ·
      go_simp
      refine (HNU.out w2.drew).mono ?_
      rintro e y1 ⟨rfl, hb1⟩
      have BY1 := Lib.hid ((Below.refl w2.heap.size w2).drew.trans (hb1.mono (Below.refl w2.heap.size w2).drew.size))
      refine hK.out _ _ (HST.out _ BY1.out) (fun _ => ?_)
      clear hK K'
      (try simp only [Act.put, List.getElem_toArray, List.getElem_cons_succ, List.getElem_cons_zero, List.setIfInBounds_toArray, List.set_cons_zero, List.set_cons_succ])
      refine wpAnyH_ready (rs := [2, 6]) (by kernel_rfl) (by simp) ?_
      refine AllReadyH.cons rfl (fun K' hK => ?_) (AllReadyH.cons rfl (fun K' hK => ?_) AllReadyH.nil)
      ·
        go_simp
        refine ((HCO.out.take a exL0 ⟨#[98]⟩ ⟨#[110, 117, 116]⟩ ⟨#[]⟩ 1 4 y1 (HT2.out.below BY1.out) HN4.out (HCA.out 4 (by decide))).mono (fun e w' h5 => PutP.hb (i := 4) (L := exL0) (by decide) (takeL_things (Things.one (Qn.fits exQ)) _ _) (Nat.le_trans (takeL_len _ _ _) (by decide)) (HT2.out.below BY1.out) h5)).mono ?_
        rintro e y2 ⟨p, rfl, htp, hb2, hzp, hofp⟩
        have BY2 := Lib.hid (BY1.out.trans (hb2.mono BY1.out.size))
        rw [E1.out]
        have HTP := Lib.hid htp
        have HZP := Lib.hid hzp
        clear htp hzp hofp
        refine hK.out _ _ (HST.out _ BY2.out) (fun _ => ?_)
        clear hK K'
        (try simp only [Act.put, List.getElem_toArray, List.getElem_cons_succ, List.getElem_cons_zero, List.setIfInBounds_toArray, List.set_cons_zero, List.set_cons_succ])
        refine wpAnyH_take (i := 3) (v := .tuple #[.agg p.cells, .int .i64 28]) rfl (by kernel_rfl) (by kernel_rfl) (by kernel_rfl) (fun _ _ _ h => nomatch h.1) (.inl ⟨by kernel_rfl, fun w hw => by clear hw; go_simp⟩) (by assumption) ?_
        (try simp only [Act.put, List.getElem_toArray, List.getElem_cons_succ, List.getElem_cons_zero, List.setIfInBounds_toArray, List.set_cons_zero, List.set_cons_succ])
        refine wpAnyH_take (i := 4) (v := .agg p.cells) rfl (by kernel_rfl) (by kernel_rfl) (by kernel_rfl) (fun _ _ _ h => nomatch h.1) (.inl ⟨by kernel_rfl, fun w hw => by clear hw; go_simp⟩) (by assumption) ?_
        (try simp only [Act.put, List.getElem_toArray, List.getElem_cons_succ, List.getElem_cons_zero, List.setIfInBounds_toArray, List.set_cons_zero, List.set_cons_succ])
        refine wpAnyH_take (i := 5) (v := .int .i64 28) rfl (by kernel_rfl) (by kernel_rfl) (by kernel_rfl) (fun _ _ _ h => nomatch h.1) (.inl ⟨by kernel_rfl, fun w hw => by clear hw; go_simp⟩) (by assumption) ?_
        (try simp only [Act.put, List.getElem_toArray, List.getElem_cons_succ, List.getElem_cons_zero, List.setIfInBounds_toArray, List.set_cons_zero, List.set_cons_succ])
        refine wpAnyH_ready (rs := [6]) (by kernel_rfl) (by simp) ?_
        refine AllReadyH.cons rfl (fun K' hK => ?_) AllReadyH.nil
        go_simp
        obtain ⟨y3, hy3⟩ : ∃ W, W = (y2.alloc (.cells #[.slice none 0 0, .slice none 0 0, .slice none 0 0, .slice none 0 0, .slice none 0 0, .slice none 0 0, .slice none 0 0, .slice none 0 0, .slice none 0 0, .slice none 0 0, .slice none 0 0, .slice none 0 0, .slice none 0 0, .slice none 0 0, .int .i64 0] 37)) := ⟨_, rfl⟩
        obtain ⟨g, hg⟩ : ∃ g, g = y2.heap.size := ⟨_, rfl⟩
        have HGW : Hid (w2.heap.size ≤ g) := Lib.hid (by rw [hg]; exact BY2.out.size)
        have hb3 : Below y2.heap.size y2 y3 := by rw [hy3]; exact ((Below.refl _ _).alloc (Nat.le_refl _) _)
        have BY3 := Lib.hid (BY2.out.trans (hb3.mono BY2.out.size))
        have HGX : Hid (y3.heap[g]? = some (.cells #[.slice none 0 0, .slice none 0 0, .slice none 0 0, .slice none 0 0, .slice none 0 0, .slice none 0 0, .slice none 0 0, .slice none 0 0, .slice none 0 0, .slice none 0 0, .slice none 0 0, .slice none 0 0, .slice none 0 0, .slice none 0 0, .int .i64 0] 37 (0, 0))) := Lib.hid (by rw [hy3, hg]; exact heap_alloc_new y2 _)
        have HGE : Hid (g < y3.heap.size) := Lib.hid (lt_of_block HGX.out)
        rw [← hy3, ← hg]
        have HOFP := Lib.hid (HTP.out.offge (Nat.le_of_eq hg.symm))
        have HTP := Lib.hid (HTP.out.below hb3)
        refine hK.out _ _ (HST.out _ BY3.out) (fun _ => ?_)
        clear hK K' hy3 hb3 hg
        (try simp only [Act.put, List.getElem_toArray, List.getElem_cons_succ, List.getElem_cons_zero, List.setIfInBounds_toArray, List.set_cons_zero, List.set_cons_succ])
        refine wpAnyH_ready (rs := [7]) (by kernel_rfl) (by simp) ?_
        refine AllReadyH.cons rfl (fun K' hK => ?_) AllReadyH.nil
        rw [if_pos (by kernel_rfl)]
        refine wp_store_row 37 (.tmp 2) (.tmp 26) rfl g p.cells rfl rfl _ _ HGX.out (HSH.out _) rfl (H1C.out _) ?_
        obtain ⟨y4, hy4⟩ : ∃ W, W = y3.setRow g p.cells := ⟨_, rfl⟩
        have BY4 : Hid (Below w2.heap.size w2 y4) := Lib.hid (by rw [hy4]; exact setRow_below BY3.out HGW.out _)
        have HGY : Hid (y4.heap[g]? = some (.cells p.cells 37 (0, 0))) := Lib.hid (by rw [hy4]; exact setRow_heap _ _ _ _ _ _ HGX.out)
        have HTQ := Lib.hid (HTP.out.setRowOff HOFP.out p.cells)
        rw [← hy4] at HTQ
        have HTP := HTQ
        rw [← hy4]
        have HGX := HGY
        refine hK.out _ _ (HST.out _ BY4.out) (fun _ => ?_)
        clear hK K' hy4
        (try simp only [Act.put, List.getElem_toArray, List.getElem_cons_succ, List.getElem_cons_zero])
        refine wpAnyH_take (i := 8) (v := .int .i64 28) rfl (by kernel_rfl) (by kernel_rfl) (by kernel_rfl) (fun _ _ _ h => nomatch h.1) (.inl ⟨by kernel_rfl, fun w hw => by clear hw; go_simp⟩) (by assumption) ?_
        (try simp only [Act.put, List.getElem_toArray, List.getElem_cons_succ, List.getElem_cons_zero, List.setIfInBounds_toArray, List.set_cons_zero, List.set_cons_succ])
        refine wpAnyH_done (by kernel_rfl) ?_ _
        exact ⟨rfl, g, p, rfl, Lib.hid ⟨BY4.out, HGW.out, HGX.out, HTP.out⟩⟩
      ·
        go_simp
        obtain ⟨y5, hy5⟩ : ∃ W, W = (y1.alloc (.cells #[.slice none 0 0, .slice none 0 0, .slice none 0 0, .slice none 0 0, .slice none 0 0, .slice none 0 0, .slice none 0 0, .slice none 0 0, .slice none 0 0, .slice none 0 0, .slice none 0 0, .slice none 0 0, .slice none 0 0, .slice none 0 0, .int .i64 0] 37)) := ⟨_, rfl⟩
        obtain ⟨g, hg⟩ : ∃ g, g = y1.heap.size := ⟨_, rfl⟩
        have HGW : Hid (w2.heap.size ≤ g) := Lib.hid (by rw [hg]; exact BY1.out.size)
        have hb5 : Below y1.heap.size y1 y5 := by rw [hy5]; exact ((Below.refl _ _).alloc (Nat.le_refl _) _)
        have BY5 := Lib.hid (BY1.out.trans (hb5.mono BY1.out.size))
        have HGX : Hid (y5.heap[g]? = some (.cells #[.slice none 0 0, .slice none 0 0, .slice none 0 0, .slice none 0 0, .slice none 0 0, .slice none 0 0, .slice none 0 0, .slice none 0 0, .slice none 0 0, .slice none 0 0, .slice none 0 0, .slice none 0 0, .slice none 0 0, .slice none 0 0, .int .i64 0] 37 (0, 0))) := Lib.hid (by rw [hy5, hg]; exact heap_alloc_new y1 _)
        have HGE : Hid (g < y5.heap.size) := Lib.hid (lt_of_block HGX.out)
        rw [← hy5, ← hg]
        refine hK.out _ _ (HST.out _ BY5.out) (fun _ => ?_)
        clear hK K' hy5 hb5 hg
        (try simp only [Act.put, List.getElem_toArray, List.getElem_cons_succ, List.getElem_cons_zero, List.setIfInBounds_toArray, List.set_cons_zero, List.set_cons_succ])
        refine wpAnyH_ready (rs := [2]) (by kernel_rfl) (by simp) ?_
        refine AllReadyH.cons rfl (fun K' hK => ?_) AllReadyH.nil
        go_simp
        refine ((HCO.out.take a exL0 ⟨#[98]⟩ ⟨#[110, 117, 116]⟩ ⟨#[]⟩ 1 4 y5 (HT2.out.below BY5.out) HN4.out (HCA.out 4 (by decide))).mono (fun e w' h5 => PutP.hb (i := 4) (L := exL0) (by decide) (takeL_things (Things.one (Qn.fits exQ)) _ _) (Nat.le_trans (takeL_len _ _ _) (by decide)) (HT2.out.below BY5.out) h5)).mono ?_
        rintro e y6 ⟨p, rfl, htp, hb6, hzp, hofp⟩
        have BY6 := Lib.hid (BY5.out.trans (hb6.mono BY5.out.size))
        rw [E1.out]
        have HGZ := HGX
        have HGX := Lib.hid ((hb6.block _ (lt_of_block HGX.out)).trans HGX.out)
        have HTP := Lib.hid htp
        have HZP := Lib.hid hzp
        have HOFP := Lib.hid (hofp g (HT2.out.offge HGW.out) (by have := lt_of_block HGZ.out; exact this))
        clear htp hzp hofp
        refine hK.out _ _ (HST.out _ BY6.out) (fun _ => ?_)
        clear hK K'
        (try simp only [Act.put, List.getElem_toArray, List.getElem_cons_succ, List.getElem_cons_zero, List.setIfInBounds_toArray, List.set_cons_zero, List.set_cons_succ])
        refine wpAnyH_take (i := 3) (v := .tuple #[.agg p.cells, .int .i64 28]) rfl (by kernel_rfl) (by kernel_rfl) (by kernel_rfl) (fun _ _ _ h => nomatch h.1) (.inl ⟨by kernel_rfl, fun w hw => by clear hw; go_simp⟩) (by assumption) ?_
        (try simp only [Act.put, List.getElem_toArray, List.getElem_cons_succ, List.getElem_cons_zero, List.setIfInBounds_toArray, List.set_cons_zero, List.set_cons_succ])
        refine wpAnyH_take (i := 4) (v := .agg p.cells) rfl (by kernel_rfl) (by kernel_rfl) (by kernel_rfl) (fun _ _ _ h => nomatch h.1) (.inl ⟨by kernel_rfl, fun w hw => by clear hw; go_simp⟩) (by assumption) ?_
        (try simp only [Act.put, List.getElem_toArray, List.getElem_cons_succ, List.getElem_cons_zero, List.setIfInBounds_toArray, List.set_cons_zero, List.set_cons_succ])
        refine wpAnyH_take (i := 5) (v := .int .i64 28) rfl (by kernel_rfl) (by kernel_rfl) (by kernel_rfl) (fun _ _ _ h => nomatch h.1) (.inl ⟨by kernel_rfl, fun w hw => by clear hw; go_simp⟩) (by assumption) ?_
        (try simp only [Act.put, List.getElem_toArray, List.getElem_cons_succ, List.getElem_cons_zero, List.setIfInBounds_toArray, List.set_cons_zero, List.set_cons_succ])
        refine wpAnyH_ready (rs := [7]) (by kernel_rfl) (by simp) ?_
        refine AllReadyH.cons rfl (fun K' hK => ?_) AllReadyH.nil
        rw [if_pos (by kernel_rfl)]
        refine wp_store_row 37 (.tmp 2) (.tmp 26) rfl g p.cells rfl rfl _ _ HGX.out (HSH.out _) rfl (H1C.out _) ?_
        obtain ⟨y7, hy7⟩ : ∃ W, W = y6.setRow g p.cells := ⟨_, rfl⟩
        have BY7 : Hid (Below w2.heap.size w2 y7) := Lib.hid (by rw [hy7]; exact setRow_below BY6.out HGW.out _)
        have HGY : Hid (y7.heap[g]? = some (.cells p.cells 37 (0, 0))) := Lib.hid (by rw [hy7]; exact setRow_heap _ _ _ _ _ _ HGX.out)
        have HTQ := Lib.hid (HTP.out.setRowOff HOFP.out p.cells)
        rw [← hy7] at HTQ
        have HTP := HTQ
        rw [← hy7]
        have HGX := HGY
        refine hK.out _ _ (HST.out _ BY7.out) (fun _ => ?_)
        clear hK K' hy7
        (try simp only [Act.put, List.getElem_toArray, List.getElem_cons_succ, List.getElem_cons_zero])
        refine wpAnyH_take (i := 8) (v := .int .i64 28) rfl (by kernel_rfl) (by kernel_rfl) (by kernel_rfl) (fun _ _ _ h => nomatch h.1) (.inl ⟨by kernel_rfl, fun w hw => by clear hw; go_simp⟩) (by assumption) ?_
        (try simp only [Act.put, List.getElem_toArray, List.getElem_cons_succ, List.getElem_cons_zero, List.setIfInBounds_toArray, List.set_cons_zero, List.set_cons_succ])
        refine wpAnyH_done (by kernel_rfl) ?_ _
        exact ⟨rfl, g, p, rfl, Lib.hid ⟨BY7.out, HGW.out, HGX.out, HTP.out⟩⟩
    ·
      go_simp
      obtain ⟨y8, hy8⟩ : ∃ W, W = (w2.alloc (.cells #[.slice none 0 0, .slice none 0 0, .slice none 0 0, .slice none 0 0, .slice none 0 0, .slice none 0 0, .slice none 0 0, .slice none 0 0, .slice none 0 0, .slice none 0 0, .slice none 0 0, .slice none 0 0, .slice none 0 0, .slice none 0 0, .int .i64 0] 37)).drew := ⟨_, rfl⟩
      obtain ⟨g, hg⟩ : ∃ g, g = w2.heap.size := ⟨_, rfl⟩
      have HGW : Hid (w2.heap.size ≤ g) := Lib.hid (by rw [hg]; exact Nat.le_refl _)
      have hb8 : Below w2.heap.size w2 y8 := by rw [hy8]; exact ((Below.refl _ _).alloc (Nat.le_refl _) _).drew
      have BY8 := Lib.hid (hb8)
      have HGX : Hid (y8.heap[g]? = some (.cells #[.slice none 0 0, .slice none 0 0, .slice none 0 0, .slice none 0 0, .slice none 0 0, .slice none 0 0, .slice none 0 0, .slice none 0 0, .slice none 0 0, .slice none 0 0, .slice none 0 0, .slice none 0 0, .slice none 0 0, .slice none 0 0, .int .i64 0] 37 (0, 0))) := Lib.hid (by rw [hy8, hg]; exact heap_alloc_new w2 _)
      have HGE : Hid (g < y8.heap.size) := Lib.hid (lt_of_block HGX.out)
      rw [← hy8, ← hg]
      refine hK.out _ _ (HST.out _ BY8.out) (fun _ => ?_)
      clear hK K' hy8 hb8 hg
      (try simp only [Act.put, List.getElem_toArray, List.getElem_cons_succ, List.getElem_cons_zero, List.setIfInBounds_toArray, List.set_cons_zero, List.set_cons_succ])
      refine wpAnyH_ready (rs := [1]) (by kernel_rfl) (by simp) ?_
      refine AllReadyH.cons rfl (fun K' hK => ?_) AllReadyH.nil
      go_simp
      refine (HNU.out y8).mono ?_
      rintro e y9 ⟨rfl, hb9⟩
      have BY9 := Lib.hid (BY8.out.trans (hb9.mono BY8.out.size))
      have HGZ := HGX
      have HGX := Lib.hid ((hb9.block _ (lt_of_block HGX.out)).trans HGX.out)
      refine hK.out _ _ (HST.out _ BY9.out) (fun _ => ?_)
      clear hK K'
      (try simp only [Act.put, List.getElem_toArray, List.getElem_cons_succ, List.getElem_cons_zero, List.setIfInBounds_toArray, List.set_cons_zero, List.set_cons_succ])
      refine wpAnyH_ready (rs := [2]) (by kernel_rfl) (by simp) ?_
      refine AllReadyH.cons rfl (fun K' hK => ?_) AllReadyH.nil
      go_simp
      refine ((HCO.out.take a exL0 ⟨#[98]⟩ ⟨#[110, 117, 116]⟩ ⟨#[]⟩ 1 4 y9 (HT2.out.below BY9.out) HN4.out (HCA.out 4 (by decide))).mono (fun e w' h5 => PutP.hb (i := 4) (L := exL0) (by decide) (takeL_things (Things.one (Qn.fits exQ)) _ _) (Nat.le_trans (takeL_len _ _ _) (by decide)) (HT2.out.below BY9.out) h5)).mono ?_
      rintro e y10 ⟨p, rfl, htp, hb10, hzp, hofp⟩
      have BY10 := Lib.hid (BY9.out.trans (hb10.mono BY9.out.size))
      rw [E1.out]
      have HGZ := HGX
      have HGX := Lib.hid ((hb10.block _ (lt_of_block HGX.out)).trans HGX.out)
      have HTP := Lib.hid htp
      have HZP := Lib.hid hzp
      have HOFP := Lib.hid (hofp g (HT2.out.offge HGW.out) (by have := lt_of_block HGZ.out; exact this))
      clear htp hzp hofp
      refine hK.out _ _ (HST.out _ BY10.out) (fun _ => ?_)
      clear hK K'
      (try simp only [Act.put, List.getElem_toArray, List.getElem_cons_succ, List.getElem_cons_zero, List.setIfInBounds_toArray, List.set_cons_zero, List.set_cons_succ])
      refine wpAnyH_take (i := 3) (v := .tuple #[.agg p.cells, .int .i64 28]) rfl (by kernel_rfl) (by kernel_rfl) (by kernel_rfl) (fun _ _ _ h => nomatch h.1) (.inl ⟨by kernel_rfl, fun w hw => by clear hw; go_simp⟩) (by assumption) ?_
      (try simp only [Act.put, List.getElem_toArray, List.getElem_cons_succ, List.getElem_cons_zero, List.setIfInBounds_toArray, List.set_cons_zero, List.set_cons_succ])
      refine wpAnyH_take (i := 4) (v := .agg p.cells) rfl (by kernel_rfl) (by kernel_rfl) (by kernel_rfl) (fun _ _ _ h => nomatch h.1) (.inl ⟨by kernel_rfl, fun w hw => by clear hw; go_simp⟩) (by assumption) ?_
      (try simp only [Act.put, List.getElem_toArray, List.getElem_cons_succ, List.getElem_cons_zero, List.setIfInBounds_toArray, List.set_cons_zero, List.set_cons_succ])
      refine wpAnyH_take (i := 5) (v := .int .i64 28) rfl (by kernel_rfl) (by kernel_rfl) (by kernel_rfl) (fun _ _ _ h => nomatch h.1) (.inl ⟨by kernel_rfl, fun w hw => by clear hw; go_simp⟩) (by assumption) ?_
      (try simp only [Act.put, List.getElem_toArray, List.getElem_cons_succ, List.getElem_cons_zero, List.setIfInBounds_toArray, List.set_cons_zero, List.set_cons_succ])
      refine wpAnyH_ready (rs := [7]) (by kernel_rfl) (by simp) ?_
      refine AllReadyH.cons rfl (fun K' hK => ?_) AllReadyH.nil
      rw [if_pos (by kernel_rfl)]
      refine wp_store_row 37 (.tmp 2) (.tmp 26) rfl g p.cells rfl rfl _ _ HGX.out (HSH.out _) rfl (H1C.out _) ?_
      obtain ⟨y11, hy11⟩ : ∃ W, W = y10.setRow g p.cells := ⟨_, rfl⟩
      have BY11 : Hid (Below w2.heap.size w2 y11) := Lib.hid (by rw [hy11]; exact setRow_below BY10.out HGW.out _)
      have HGY : Hid (y11.heap[g]? = some (.cells p.cells 37 (0, 0))) := Lib.hid (by rw [hy11]; exact setRow_heap _ _ _ _ _ _ HGX.out)
      have HTQ := Lib.hid (HTP.out.setRowOff HOFP.out p.cells)
      rw [← hy11] at HTQ
      have HTP := HTQ
      rw [← hy11]
      have HGX := HGY
      refine hK.out _ _ (HST.out _ BY11.out) (fun _ => ?_)
      clear hK K' hy11
      (try simp only [Act.put, List.getElem_toArray, List.getElem_cons_succ, List.getElem_cons_zero])
      refine wpAnyH_take (i := 8) (v := .int .i64 28) rfl (by kernel_rfl) (by kernel_rfl) (by kernel_rfl) (fun _ _ _ h => nomatch h.1) (.inl ⟨by kernel_rfl, fun w hw => by clear hw; go_simp⟩) (by assumption) ?_
      (try simp only [Act.put, List.getElem_toArray, List.getElem_cons_succ, List.getElem_cons_zero, List.setIfInBounds_toArray, List.set_cons_zero, List.set_cons_succ])
      refine wpAnyH_done (by kernel_rfl) ?_ _
      exact ⟨rfl, g, p, rfl, Lib.hid ⟨BY11.out, HGW.out, HGX.out, HTP.out⟩⟩
  · intro g3 p3 w3 hR
    have HA3 := Lib.hid ((hR.out.1.block _ (lt_of_block HA2.out)).trans HA2.out)
    have B3 := Lib.hid (B2.out.trans (hR.out.1.mono B2.out.size))
    have HT3 := Lib.hid (HT2.out.below hR.out.1)
    have HB3 := Lib.hid hR.out.2.2.1
    have HPHB3 := Lib.hid hR.out.2.2.2
    clear hR HST
    go_wp2_with fail
    have HST : Hid (∀ X, Below w3.heap.size w3 X → X.rangeAt (w1.heap.size + 1) 0 a.cells.toList) := Lib.hid (fun X hX => range_row0 ((hX.block _ (lt_of_block HA3.out)).trans HA3.out))
    apply region_to2 (R := fun g (p : Hs) W => Hid (Below w3.heap.size w3 W ∧ w3.heap.size ≤ g ∧ W.heap[g]? = some (.cells p.cells 37 (0, 0)) ∧ (HT p (setE (takeE (exL0 4) (Ky.mk ⟨#[98]⟩ ⟨#[110, 117, 116]⟩ ⟨#[]⟩ 1) 6) exL0 4 (takeL (exL0 4) (Ky.mk ⟨#[98]⟩ ⟨#[110, 117, 116]⟩ ⟨#[]⟩ 1) 6)) W)))
    · refine wp_region_held_drew (S := (fun w' => w'.rangeAt (w1.heap.size + 1) 0 a.cells.toList)) (by kernel_rfl) (HST.out _ (Below.refl w3.heap.size w3).drew) (fun dd0 => ?_)
      refine wpAnyH_take (i := 0) (v := .agg a.cells) rfl (by kernel_rfl) (by kernel_rfl) (by kernel_rfl) (fun _ _ _ h => nomatch h.1) (yieldsIf_load_mid (by kernel_rfl) 37 (.tmp 1) rfl (w1.heap.size + 1) 0 rfl a.cells.toList _ (fun w h => h) huh rfl (HSHL.out _)) (by assumption) ?_
      (try simp only [Act.put, List.getElem_toArray, List.getElem_cons_zero, List.setIfInBounds_toArray, List.set_cons_zero, List.set_cons_succ])
      refine wpAnyH_ready (rs := [1, 6]) (by kernel_rfl) (by simp) ?_
      refine AllReadyH.cons rfl (fun K' hK => ?_) (AllReadyH.cons rfl (fun K' hK => ?_) AllReadyH.nil)
      ·
        go_simp
        refine (HNU.out w3.drew).mono ?_
        rintro e y1 ⟨rfl, hb1⟩
        have BY1 := Lib.hid ((Below.refl w3.heap.size w3).drew.trans (hb1.mono (Below.refl w3.heap.size w3).drew.size))
        refine hK.out _ _ (HST.out _ BY1.out) (fun _ => ?_)
        clear hK K'
        (try simp only [Act.put, List.getElem_toArray, List.getElem_cons_succ, List.getElem_cons_zero, List.setIfInBounds_toArray, List.set_cons_zero, List.set_cons_succ])
        refine wpAnyH_ready (rs := [2, 6]) (by kernel_rfl) (by simp) ?_
        refine AllReadyH.cons rfl (fun K' hK => ?_) (AllReadyH.cons rfl (fun K' hK => ?_) AllReadyH.nil)
        ·
          go_simp
          refine ((HCO.out.take a exL0 ⟨#[98]⟩ ⟨#[110, 117, 116]⟩ ⟨#[]⟩ 1 6 y1 (HT3.out.below BY1.out) HN4.out (HCA.out 4 (by decide))).mono (fun e w' h5 => PutP.hb (i := 4) (L := exL0) (by decide) (takeL_things (Things.one (Qn.fits exQ)) _ _) (Nat.le_trans (takeL_len _ _ _) (by decide)) (HT3.out.below BY1.out) h5)).mono ?_
          rintro e y2 ⟨p, rfl, htp, hb2, hzp, hofp⟩
          have BY2 := Lib.hid (BY1.out.trans (hb2.mono BY1.out.size))
          rw [E2.out]
          have HTP := Lib.hid htp
          have HZP := Lib.hid hzp
          clear htp hzp hofp
          refine hK.out _ _ (HST.out _ BY2.out) (fun _ => ?_)
          clear hK K'
          (try simp only [Act.put, List.getElem_toArray, List.getElem_cons_succ, List.getElem_cons_zero, List.setIfInBounds_toArray, List.set_cons_zero, List.set_cons_succ])
          refine wpAnyH_take (i := 3) (v := .tuple #[.agg p.cells, .int .i64 27]) rfl (by kernel_rfl) (by kernel_rfl) (by kernel_rfl) (fun _ _ _ h => nomatch h.1) (.inl ⟨by kernel_rfl, fun w hw => by clear hw; go_simp⟩) (by assumption) ?_
          (try simp only [Act.put, List.getElem_toArray, List.getElem_cons_succ, List.getElem_cons_zero, List.setIfInBounds_toArray, List.set_cons_zero, List.set_cons_succ])
          refine wpAnyH_take (i := 4) (v := .agg p.cells) rfl (by kernel_rfl) (by kernel_rfl) (by kernel_rfl) (fun _ _ _ h => nomatch h.1) (.inl ⟨by kernel_rfl, fun w hw => by clear hw; go_simp⟩) (by assumption) ?_
          (try simp only [Act.put, List.getElem_toArray, List.getElem_cons_succ, List.getElem_cons_zero, List.setIfInBounds_toArray, List.set_cons_zero, List.set_cons_succ])
          refine wpAnyH_take (i := 5) (v := .int .i64 27) rfl (by kernel_rfl) (by kernel_rfl) (by kernel_rfl) (fun _ _ _ h => nomatch h.1) (.inl ⟨by kernel_rfl, fun w hw => by clear hw; go_simp⟩) (by assumption) ?_
          (try simp only [Act.put, List.getElem_toArray, List.getElem_cons_succ, List.getElem_cons_zero, List.setIfInBounds_toArray, List.set_cons_zero, List.set_cons_succ])
          refine wpAnyH_ready (rs := [6]) (by kernel_rfl) (by simp) ?_
          refine AllReadyH.cons rfl (fun K' hK => ?_) AllReadyH.nil
          go_simp
          obtain ⟨y3, hy3⟩ : ∃ W, W = (y2.alloc (.cells #[.slice none 0 0, .slice none 0 0, .slice none 0 0, .slice none 0 0, .slice none 0 0, .slice none 0 0, .slice none 0 0, .slice none 0 0, .slice none 0 0, .slice none 0 0, .slice none 0 0, .slice none 0 0, .slice none 0 0, .slice none 0 0, .int .i64 0] 37)) := ⟨_, rfl⟩
          obtain ⟨g, hg⟩ : ∃ g, g = y2.heap.size := ⟨_, rfl⟩
          have HGW : Hid (w3.heap.size ≤ g) := Lib.hid (by rw [hg]; exact BY2.out.size)
          have hb3 : Below y2.heap.size y2 y3 := by rw [hy3]; exact ((Below.refl _ _).alloc (Nat.le_refl _) _)
          have BY3 := Lib.hid (BY2.out.trans (hb3.mono BY2.out.size))
          have HGX : Hid (y3.heap[g]? = some (.cells #[.slice none 0 0, .slice none 0 0, .slice none 0 0, .slice none 0 0, .slice none 0 0, .slice none 0 0, .slice none 0 0, .slice none 0 0, .slice none 0 0, .slice none 0 0, .slice none 0 0, .slice none 0 0, .slice none 0 0, .slice none 0 0, .int .i64 0] 37 (0, 0))) := Lib.hid (by rw [hy3, hg]; exact heap_alloc_new y2 _)
          have HGE : Hid (g < y3.heap.size) := Lib.hid (lt_of_block HGX.out)
          rw [← hy3, ← hg]
          have HOFP := Lib.hid (HTP.out.offge (Nat.le_of_eq hg.symm))
          have HTP := Lib.hid (HTP.out.below hb3)
          refine hK.out _ _ (HST.out _ BY3.out) (fun _ => ?_)
          clear hK K' hy3 hb3 hg
          (try simp only [Act.put, List.getElem_toArray, List.getElem_cons_succ, List.getElem_cons_zero, List.setIfInBounds_toArray, List.set_cons_zero, List.set_cons_succ])
          refine wpAnyH_ready (rs := [7]) (by kernel_rfl) (by simp) ?_
          refine AllReadyH.cons rfl (fun K' hK => ?_) AllReadyH.nil
          rw [if_pos (by kernel_rfl)]
          refine wp_store_row 37 (.tmp 4) (.tmp 32) rfl g p.cells rfl rfl _ _ HGX.out (HSH.out _) rfl (H1C.out _) ?_
          obtain ⟨y4, hy4⟩ : ∃ W, W = y3.setRow g p.cells := ⟨_, rfl⟩
          have BY4 : Hid (Below w3.heap.size w3 y4) := Lib.hid (by rw [hy4]; exact setRow_below BY3.out HGW.out _)
          have HGY : Hid (y4.heap[g]? = some (.cells p.cells 37 (0, 0))) := Lib.hid (by rw [hy4]; exact setRow_heap _ _ _ _ _ _ HGX.out)
          have HTQ := Lib.hid (HTP.out.setRowOff HOFP.out p.cells)
          rw [← hy4] at HTQ
          have HTP := HTQ
          rw [← hy4]
          have HGX := HGY
          refine hK.out _ _ (HST.out _ BY4.out) (fun _ => ?_)
          clear hK K' hy4
          (try simp only [Act.put, List.getElem_toArray, List.getElem_cons_succ, List.getElem_cons_zero])
          refine wpAnyH_take (i := 8) (v := .int .i64 27) rfl (by kernel_rfl) (by kernel_rfl) (by kernel_rfl) (fun _ _ _ h => nomatch h.1) (.inl ⟨by kernel_rfl, fun w hw => by clear hw; go_simp⟩) (by assumption) ?_
          (try simp only [Act.put, List.getElem_toArray, List.getElem_cons_succ, List.getElem_cons_zero, List.setIfInBounds_toArray, List.set_cons_zero, List.set_cons_succ])
          refine wpAnyH_done (by kernel_rfl) ?_ _
          exact ⟨rfl, g, p, rfl, Lib.hid ⟨BY4.out, HGW.out, HGX.out, HTP.out⟩⟩
        ·
          go_simp
          obtain ⟨y5, hy5⟩ : ∃ W, W = (y1.alloc (.cells #[.slice none 0 0, .slice none 0 0, .slice none 0 0, .slice none 0 0, .slice none 0 0, .slice none 0 0, .slice none 0 0, .slice none 0 0, .slice none 0 0, .slice none 0 0, .slice none 0 0, .slice none 0 0, .slice none 0 0, .slice none 0 0, .int .i64 0] 37)) := ⟨_, rfl⟩
          obtain ⟨g, hg⟩ : ∃ g, g = y1.heap.size := ⟨_, rfl⟩
          have HGW : Hid (w3.heap.size ≤ g) := Lib.hid (by rw [hg]; exact BY1.out.size)
          have hb5 : Below y1.heap.size y1 y5 := by rw [hy5]; exact ((Below.refl _ _).alloc (Nat.le_refl _) _)
          have BY5 := Lib.hid (BY1.out.trans (hb5.mono BY1.out.size))
          have HGX : Hid (y5.heap[g]? = some (.cells #[.slice none 0 0, .slice none 0 0, .slice none 0 0, .slice none 0 0, .slice none 0 0, .slice none 0 0, .slice none 0 0, .slice none 0 0, .slice none 0 0, .slice none 0 0, .slice none 0 0, .slice none 0 0, .slice none 0 0, .slice none 0 0, .int .i64 0] 37 (0, 0))) := Lib.hid (by rw [hy5, hg]; exact heap_alloc_new y1 _)
          have HGE : Hid (g < y5.heap.size) := Lib.hid (lt_of_block HGX.out)
          rw [← hy5, ← hg]
          refine hK.out _ _ (HST.out _ BY5.out) (fun _ => ?_)
          clear hK K' hy5 hb5 hg
          (try simp only [Act.put, List.getElem_toArray, List.getElem_cons_succ, List.getElem_cons_zero, List.setIfInBounds_toArray, List.set_cons_zero, List.set_cons_succ])
          refine wpAnyH_ready (rs := [2]) (by kernel_rfl) (by simp) ?_
          refine AllReadyH.cons rfl (fun K' hK => ?_) AllReadyH.nil
          go_simp
          refine ((HCO.out.take a exL0 ⟨#[98]⟩ ⟨#[110, 117, 116]⟩ ⟨#[]⟩ 1 6 y5 (HT3.out.below BY5.out) HN4.out (HCA.out 4 (by decide))).mono (fun e w' h5 => PutP.hb (i := 4) (L := exL0) (by decide) (takeL_things (Things.one (Qn.fits exQ)) _ _) (Nat.le_trans (takeL_len _ _ _) (by decide)) (HT3.out.below BY5.out) h5)).mono ?_
          rintro e y6 ⟨p, rfl, htp, hb6, hzp, hofp⟩
          have BY6 := Lib.hid (BY5.out.trans (hb6.mono BY5.out.size))
          rw [E2.out]
          have HGZ := HGX
          have HGX := Lib.hid ((hb6.block _ (lt_of_block HGX.out)).trans HGX.out)
          have HTP := Lib.hid htp
          have HZP := Lib.hid hzp
          have HOFP := Lib.hid (hofp g (HT3.out.offge HGW.out) (by have := lt_of_block HGZ.out; exact this))
          clear htp hzp hofp
          refine hK.out _ _ (HST.out _ BY6.out) (fun _ => ?_)
          clear hK K'
          (try simp only [Act.put, List.getElem_toArray, List.getElem_cons_succ, List.getElem_cons_zero, List.setIfInBounds_toArray, List.set_cons_zero, List.set_cons_succ])
          refine wpAnyH_take (i := 3) (v := .tuple #[.agg p.cells, .int .i64 27]) rfl (by kernel_rfl) (by kernel_rfl) (by kernel_rfl) (fun _ _ _ h => nomatch h.1) (.inl ⟨by kernel_rfl, fun w hw => by clear hw; go_simp⟩) (by assumption) ?_
          (try simp only [Act.put, List.getElem_toArray, List.getElem_cons_succ, List.getElem_cons_zero, List.setIfInBounds_toArray, List.set_cons_zero, List.set_cons_succ])
          refine wpAnyH_take (i := 4) (v := .agg p.cells) rfl (by kernel_rfl) (by kernel_rfl) (by kernel_rfl) (fun _ _ _ h => nomatch h.1) (.inl ⟨by kernel_rfl, fun w hw => by clear hw; go_simp⟩) (by assumption) ?_
          (try simp only [Act.put, List.getElem_toArray, List.getElem_cons_succ, List.getElem_cons_zero, List.setIfInBounds_toArray, List.set_cons_zero, List.set_cons_succ])
          refine wpAnyH_take (i := 5) (v := .int .i64 27) rfl (by kernel_rfl) (by kernel_rfl) (by kernel_rfl) (fun _ _ _ h => nomatch h.1) (.inl ⟨by kernel_rfl, fun w hw => by clear hw; go_simp⟩) (by assumption) ?_
          (try simp only [Act.put, List.getElem_toArray, List.getElem_cons_succ, List.getElem_cons_zero, List.setIfInBounds_toArray, List.set_cons_zero, List.set_cons_succ])
          refine wpAnyH_ready (rs := [7]) (by kernel_rfl) (by simp) ?_
          refine AllReadyH.cons rfl (fun K' hK => ?_) AllReadyH.nil
          rw [if_pos (by kernel_rfl)]
          refine wp_store_row 37 (.tmp 4) (.tmp 32) rfl g p.cells rfl rfl _ _ HGX.out (HSH.out _) rfl (H1C.out _) ?_
          obtain ⟨y7, hy7⟩ : ∃ W, W = y6.setRow g p.cells := ⟨_, rfl⟩
          have BY7 : Hid (Below w3.heap.size w3 y7) := Lib.hid (by rw [hy7]; exact setRow_below BY6.out HGW.out _)
          have HGY : Hid (y7.heap[g]? = some (.cells p.cells 37 (0, 0))) := Lib.hid (by rw [hy7]; exact setRow_heap _ _ _ _ _ _ HGX.out)
          have HTQ := Lib.hid (HTP.out.setRowOff HOFP.out p.cells)
          rw [← hy7] at HTQ
          have HTP := HTQ
          rw [← hy7]
          have HGX := HGY
          refine hK.out _ _ (HST.out _ BY7.out) (fun _ => ?_)
          clear hK K' hy7
          (try simp only [Act.put, List.getElem_toArray, List.getElem_cons_succ, List.getElem_cons_zero])
          refine wpAnyH_take (i := 8) (v := .int .i64 27) rfl (by kernel_rfl) (by kernel_rfl) (by kernel_rfl) (fun _ _ _ h => nomatch h.1) (.inl ⟨by kernel_rfl, fun w hw => by clear hw; go_simp⟩) (by assumption) ?_
          (try simp only [Act.put, List.getElem_toArray, List.getElem_cons_succ, List.getElem_cons_zero, List.setIfInBounds_toArray, List.set_cons_zero, List.set_cons_succ])
          refine wpAnyH_done (by kernel_rfl) ?_ _
          exact ⟨rfl, g, p, rfl, Lib.hid ⟨BY7.out, HGW.out, HGX.out, HTP.out⟩⟩
      ·
        go_simp
        obtain ⟨y8, hy8⟩ : ∃ W, W = (w3.alloc (.cells #[.slice none 0 0, .slice none 0 0, .slice none 0 0, .slice none 0 0, .slice none 0 0, .slice none 0 0, .slice none 0 0, .slice none 0 0, .slice none 0 0, .slice none 0 0, .slice none 0 0, .slice none 0 0, .slice none 0 0, .slice none 0 0, .int .i64 0] 37)).drew := ⟨_, rfl⟩
        obtain ⟨g, hg⟩ : ∃ g, g = w3.heap.size := ⟨_, rfl⟩
        have HGW : Hid (w3.heap.size ≤ g) := Lib.hid (by rw [hg]; exact Nat.le_refl _)
        have hb8 : Below w3.heap.size w3 y8 := by rw [hy8]; exact ((Below.refl _ _).alloc (Nat.le_refl _) _).drew
        have BY8 := Lib.hid (hb8)
        have HGX : Hid (y8.heap[g]? = some (.cells #[.slice none 0 0, .slice none 0 0, .slice none 0 0, .slice none 0 0, .slice none 0 0, .slice none 0 0, .slice none 0 0, .slice none 0 0, .slice none 0 0, .slice none 0 0, .slice none 0 0, .slice none 0 0, .slice none 0 0, .slice none 0 0, .int .i64 0] 37 (0, 0))) := Lib.hid (by rw [hy8, hg]; exact heap_alloc_new w3 _)
        have HGE : Hid (g < y8.heap.size) := Lib.hid (lt_of_block HGX.out)
        rw [← hy8, ← hg]
        refine hK.out _ _ (HST.out _ BY8.out) (fun _ => ?_)
        clear hK K' hy8 hb8 hg
        (try simp only [Act.put, List.getElem_toArray, List.getElem_cons_succ, List.getElem_cons_zero, List.setIfInBounds_toArray, List.set_cons_zero, List.set_cons_succ])
        refine wpAnyH_ready (rs := [1]) (by kernel_rfl) (by simp) ?_
        refine AllReadyH.cons rfl (fun K' hK => ?_) AllReadyH.nil
        go_simp
        refine (HNU.out y8).mono ?_
        rintro e y9 ⟨rfl, hb9⟩
        have BY9 := Lib.hid (BY8.out.trans (hb9.mono BY8.out.size))
        have HGZ := HGX
        have HGX := Lib.hid ((hb9.block _ (lt_of_block HGX.out)).trans HGX.out)
        refine hK.out _ _ (HST.out _ BY9.out) (fun _ => ?_)
        clear hK K'
        (try simp only [Act.put, List.getElem_toArray, List.getElem_cons_succ, List.getElem_cons_zero, List.setIfInBounds_toArray, List.set_cons_zero, List.set_cons_succ])
        refine wpAnyH_ready (rs := [2]) (by kernel_rfl) (by simp) ?_
        refine AllReadyH.cons rfl (fun K' hK => ?_) AllReadyH.nil
        go_simp
        refine ((HCO.out.take a exL0 ⟨#[98]⟩ ⟨#[110, 117, 116]⟩ ⟨#[]⟩ 1 6 y9 (HT3.out.below BY9.out) HN4.out (HCA.out 4 (by decide))).mono (fun e w' h5 => PutP.hb (i := 4) (L := exL0) (by decide) (takeL_things (Things.one (Qn.fits exQ)) _ _) (Nat.le_trans (takeL_len _ _ _) (by decide)) (HT3.out.below BY9.out) h5)).mono ?_
        rintro e y10 ⟨p, rfl, htp, hb10, hzp, hofp⟩
        have BY10 := Lib.hid (BY9.out.trans (hb10.mono BY9.out.size))
        rw [E2.out]
        have HGZ := HGX
        have HGX := Lib.hid ((hb10.block _ (lt_of_block HGX.out)).trans HGX.out)
        have HTP := Lib.hid htp
        have HZP := Lib.hid hzp
        have HOFP := Lib.hid (hofp g (HT3.out.offge HGW.out) (by have := lt_of_block HGZ.out; exact this))
        clear htp hzp hofp
        refine hK.out _ _ (HST.out _ BY10.out) (fun _ => ?_)
        clear hK K'
        (try simp only [Act.put, List.getElem_toArray, List.getElem_cons_succ, List.getElem_cons_zero, List.setIfInBounds_toArray, List.set_cons_zero, List.set_cons_succ])
        refine wpAnyH_take (i := 3) (v := .tuple #[.agg p.cells, .int .i64 27]) rfl (by kernel_rfl) (by kernel_rfl) (by kernel_rfl) (fun _ _ _ h => nomatch h.1) (.inl ⟨by kernel_rfl, fun w hw => by clear hw; go_simp⟩) (by assumption) ?_
        (try simp only [Act.put, List.getElem_toArray, List.getElem_cons_succ, List.getElem_cons_zero, List.setIfInBounds_toArray, List.set_cons_zero, List.set_cons_succ])
        refine wpAnyH_take (i := 4) (v := .agg p.cells) rfl (by kernel_rfl) (by kernel_rfl) (by kernel_rfl) (fun _ _ _ h => nomatch h.1) (.inl ⟨by kernel_rfl, fun w hw => by clear hw; go_simp⟩) (by assumption) ?_
        (try simp only [Act.put, List.getElem_toArray, List.getElem_cons_succ, List.getElem_cons_zero, List.setIfInBounds_toArray, List.set_cons_zero, List.set_cons_succ])
        refine wpAnyH_take (i := 5) (v := .int .i64 27) rfl (by kernel_rfl) (by kernel_rfl) (by kernel_rfl) (fun _ _ _ h => nomatch h.1) (.inl ⟨by kernel_rfl, fun w hw => by clear hw; go_simp⟩) (by assumption) ?_
        (try simp only [Act.put, List.getElem_toArray, List.getElem_cons_succ, List.getElem_cons_zero, List.setIfInBounds_toArray, List.set_cons_zero, List.set_cons_succ])
        refine wpAnyH_ready (rs := [7]) (by kernel_rfl) (by simp) ?_
        refine AllReadyH.cons rfl (fun K' hK => ?_) AllReadyH.nil
        rw [if_pos (by kernel_rfl)]
        refine wp_store_row 37 (.tmp 4) (.tmp 32) rfl g p.cells rfl rfl _ _ HGX.out (HSH.out _) rfl (H1C.out _) ?_
        obtain ⟨y11, hy11⟩ : ∃ W, W = y10.setRow g p.cells := ⟨_, rfl⟩
        have BY11 : Hid (Below w3.heap.size w3 y11) := Lib.hid (by rw [hy11]; exact setRow_below BY10.out HGW.out _)
        have HGY : Hid (y11.heap[g]? = some (.cells p.cells 37 (0, 0))) := Lib.hid (by rw [hy11]; exact setRow_heap _ _ _ _ _ _ HGX.out)
        have HTQ := Lib.hid (HTP.out.setRowOff HOFP.out p.cells)
        rw [← hy11] at HTQ
        have HTP := HTQ
        rw [← hy11]
        have HGX := HGY
        refine hK.out _ _ (HST.out _ BY11.out) (fun _ => ?_)
        clear hK K' hy11
        (try simp only [Act.put, List.getElem_toArray, List.getElem_cons_succ, List.getElem_cons_zero])
        refine wpAnyH_take (i := 8) (v := .int .i64 27) rfl (by kernel_rfl) (by kernel_rfl) (by kernel_rfl) (fun _ _ _ h => nomatch h.1) (.inl ⟨by kernel_rfl, fun w hw => by clear hw; go_simp⟩) (by assumption) ?_
        (try simp only [Act.put, List.getElem_toArray, List.getElem_cons_succ, List.getElem_cons_zero, List.setIfInBounds_toArray, List.set_cons_zero, List.set_cons_succ])
        refine wpAnyH_done (by kernel_rfl) ?_ _
        exact ⟨rfl, g, p, rfl, Lib.hid ⟨BY11.out, HGW.out, HGX.out, HTP.out⟩⟩
    · intro g4 p4 w4 hR
      have HA4 := Lib.hid ((hR.out.1.block _ (lt_of_block HA3.out)).trans HA3.out)
      have HB4 := Lib.hid ((hR.out.1.block _ (lt_of_block HB3.out)).trans HB3.out)
      have B4 := Lib.hid (B3.out.trans (hR.out.1.mono B3.out.size))
      have HT4 := Lib.hid (HT3.out.below hR.out.1)
      have HPHB4 := Lib.hid (HPHB3.out.below hR.out.1)
      have HC4 := Lib.hid hR.out.2.2.1
      have HPHC4 := Lib.hid hR.out.2.2.2
      clear hR HST
      go_wp2_with fail
      have HST : Hid (∀ X, Below w4.heap.size w4 X → X.rangeAt (w1.heap.size + 1) 0 a.cells.toList) := Lib.hid (fun X hX => range_row0 ((hX.block _ (lt_of_block HA4.out)).trans HA4.out))
      apply region_to2 (R := fun g (p : Hs) W => Hid (Below w4.heap.size w4 W ∧ w4.heap.size ≤ g ∧ W.heap[g]? = some (.cells p.cells 37 (0, 0)) ∧ (HT p (setE (takeE (exL0 4) (Ky.mk ⟨#[98]⟩ ⟨#[110, 117, 116]⟩ ⟨#[]⟩ 1) 3) exL0 4 (takeL (exL0 4) (Ky.mk ⟨#[98]⟩ ⟨#[110, 117, 116]⟩ ⟨#[]⟩ 1) 3)) W)))
      · refine wp_region_held_drew (S := (fun w' => w'.rangeAt (w1.heap.size + 1) 0 a.cells.toList)) (by kernel_rfl) (HST.out _ (Below.refl w4.heap.size w4).drew) (fun dd0 => ?_)
        refine wpAnyH_take (i := 0) (v := .agg a.cells) rfl (by kernel_rfl) (by kernel_rfl) (by kernel_rfl) (fun _ _ _ h => nomatch h.1) (yieldsIf_load_mid (by kernel_rfl) 37 (.tmp 1) rfl (w1.heap.size + 1) 0 rfl a.cells.toList _ (fun w h => h) huh rfl (HSHL.out _)) (by assumption) ?_
        (try simp only [Act.put, List.getElem_toArray, List.getElem_cons_zero, List.setIfInBounds_toArray, List.set_cons_zero, List.set_cons_succ])
        refine wpAnyH_ready (rs := [1, 6]) (by kernel_rfl) (by simp) ?_
        refine AllReadyH.cons rfl (fun K' hK => ?_) (AllReadyH.cons rfl (fun K' hK => ?_) AllReadyH.nil)
        ·
          go_simp
          refine (HNU.out w4.drew).mono ?_
          rintro e y1 ⟨rfl, hb1⟩
          have BY1 := Lib.hid ((Below.refl w4.heap.size w4).drew.trans (hb1.mono (Below.refl w4.heap.size w4).drew.size))
          refine hK.out _ _ (HST.out _ BY1.out) (fun _ => ?_)
          clear hK K'
          (try simp only [Act.put, List.getElem_toArray, List.getElem_cons_succ, List.getElem_cons_zero, List.setIfInBounds_toArray, List.set_cons_zero, List.set_cons_succ])
          refine wpAnyH_ready (rs := [2, 6]) (by kernel_rfl) (by simp) ?_
          refine AllReadyH.cons rfl (fun K' hK => ?_) (AllReadyH.cons rfl (fun K' hK => ?_) AllReadyH.nil)
          ·
            go_simp
            refine ((HCO.out.take a exL0 ⟨#[98]⟩ ⟨#[110, 117, 116]⟩ ⟨#[]⟩ 1 3 y1 (HT4.out.below BY1.out) HN4.out (HCA.out 4 (by decide))).mono (fun e w' h5 => PutP.hb (i := 4) (L := exL0) (by decide) (takeL_things (Things.one (Qn.fits exQ)) _ _) (Nat.le_trans (takeL_len _ _ _) (by decide)) (HT4.out.below BY1.out) h5)).mono ?_
            rintro e y2 ⟨p, rfl, htp, hb2, hzp, hofp⟩
            have BY2 := Lib.hid (BY1.out.trans (hb2.mono BY1.out.size))
            rw [E3.out]
            have HTP := Lib.hid htp
            have HZP := Lib.hid hzp
            clear htp hzp hofp
            refine hK.out _ _ (HST.out _ BY2.out) (fun _ => ?_)
            clear hK K'
            (try simp only [Act.put, List.getElem_toArray, List.getElem_cons_succ, List.getElem_cons_zero, List.setIfInBounds_toArray, List.set_cons_zero, List.set_cons_succ])
            refine wpAnyH_take (i := 3) (v := .tuple #[.agg p.cells, .int .i64 0]) rfl (by kernel_rfl) (by kernel_rfl) (by kernel_rfl) (fun _ _ _ h => nomatch h.1) (.inl ⟨by kernel_rfl, fun w hw => by clear hw; go_simp⟩) (by assumption) ?_
            (try simp only [Act.put, List.getElem_toArray, List.getElem_cons_succ, List.getElem_cons_zero, List.setIfInBounds_toArray, List.set_cons_zero, List.set_cons_succ])
            refine wpAnyH_take (i := 4) (v := .agg p.cells) rfl (by kernel_rfl) (by kernel_rfl) (by kernel_rfl) (fun _ _ _ h => nomatch h.1) (.inl ⟨by kernel_rfl, fun w hw => by clear hw; go_simp⟩) (by assumption) ?_
            (try simp only [Act.put, List.getElem_toArray, List.getElem_cons_succ, List.getElem_cons_zero, List.setIfInBounds_toArray, List.set_cons_zero, List.set_cons_succ])
            refine wpAnyH_take (i := 5) (v := .int .i64 0) rfl (by kernel_rfl) (by kernel_rfl) (by kernel_rfl) (fun _ _ _ h => nomatch h.1) (.inl ⟨by kernel_rfl, fun w hw => by clear hw; go_simp⟩) (by assumption) ?_
            (try simp only [Act.put, List.getElem_toArray, List.getElem_cons_succ, List.getElem_cons_zero, List.setIfInBounds_toArray, List.set_cons_zero, List.set_cons_succ])
            refine wpAnyH_ready (rs := [6]) (by kernel_rfl) (by simp) ?_
            refine AllReadyH.cons rfl (fun K' hK => ?_) AllReadyH.nil
            go_simp
            obtain ⟨y3, hy3⟩ : ∃ W, W = (y2.alloc (.cells #[.slice none 0 0, .slice none 0 0, .slice none 0 0, .slice none 0 0, .slice none 0 0, .slice none 0 0, .slice none 0 0, .slice none 0 0, .slice none 0 0, .slice none 0 0, .slice none 0 0, .slice none 0 0, .slice none 0 0, .slice none 0 0, .int .i64 0] 37)) := ⟨_, rfl⟩
            obtain ⟨g, hg⟩ : ∃ g, g = y2.heap.size := ⟨_, rfl⟩
            have HGW : Hid (w4.heap.size ≤ g) := Lib.hid (by rw [hg]; exact BY2.out.size)
            have hb3 : Below y2.heap.size y2 y3 := by rw [hy3]; exact ((Below.refl _ _).alloc (Nat.le_refl _) _)
            have BY3 := Lib.hid (BY2.out.trans (hb3.mono BY2.out.size))
            have HGX : Hid (y3.heap[g]? = some (.cells #[.slice none 0 0, .slice none 0 0, .slice none 0 0, .slice none 0 0, .slice none 0 0, .slice none 0 0, .slice none 0 0, .slice none 0 0, .slice none 0 0, .slice none 0 0, .slice none 0 0, .slice none 0 0, .slice none 0 0, .slice none 0 0, .int .i64 0] 37 (0, 0))) := Lib.hid (by rw [hy3, hg]; exact heap_alloc_new y2 _)
            have HGE : Hid (g < y3.heap.size) := Lib.hid (lt_of_block HGX.out)
            rw [← hy3, ← hg]
            have HOFP := Lib.hid (HTP.out.offge (Nat.le_of_eq hg.symm))
            have HTP := Lib.hid (HTP.out.below hb3)
            refine hK.out _ _ (HST.out _ BY3.out) (fun _ => ?_)
            clear hK K' hy3 hb3 hg
            (try simp only [Act.put, List.getElem_toArray, List.getElem_cons_succ, List.getElem_cons_zero, List.setIfInBounds_toArray, List.set_cons_zero, List.set_cons_succ])
            refine wpAnyH_ready (rs := [7]) (by kernel_rfl) (by simp) ?_
            refine AllReadyH.cons rfl (fun K' hK => ?_) AllReadyH.nil
            rw [if_pos (by kernel_rfl)]
            refine wp_store_row 37 (.tmp 6) (.tmp 38) rfl g p.cells rfl rfl _ _ HGX.out (HSH.out _) rfl (H1C.out _) ?_
            obtain ⟨y4, hy4⟩ : ∃ W, W = y3.setRow g p.cells := ⟨_, rfl⟩
            have BY4 : Hid (Below w4.heap.size w4 y4) := Lib.hid (by rw [hy4]; exact setRow_below BY3.out HGW.out _)
            have HGY : Hid (y4.heap[g]? = some (.cells p.cells 37 (0, 0))) := Lib.hid (by rw [hy4]; exact setRow_heap _ _ _ _ _ _ HGX.out)
            have HTQ := Lib.hid (HTP.out.setRowOff HOFP.out p.cells)
            rw [← hy4] at HTQ
            have HTP := HTQ
            rw [← hy4]
            have HGX := HGY
            refine hK.out _ _ (HST.out _ BY4.out) (fun _ => ?_)
            clear hK K' hy4
            (try simp only [Act.put, List.getElem_toArray, List.getElem_cons_succ, List.getElem_cons_zero])
            refine wpAnyH_take (i := 8) (v := .int .i64 0) rfl (by kernel_rfl) (by kernel_rfl) (by kernel_rfl) (fun _ _ _ h => nomatch h.1) (.inl ⟨by kernel_rfl, fun w hw => by clear hw; go_simp⟩) (by assumption) ?_
            (try simp only [Act.put, List.getElem_toArray, List.getElem_cons_succ, List.getElem_cons_zero, List.setIfInBounds_toArray, List.set_cons_zero, List.set_cons_succ])
            refine wpAnyH_done (by kernel_rfl) ?_ _
            exact ⟨rfl, g, p, rfl, Lib.hid ⟨BY4.out, HGW.out, HGX.out, HTP.out⟩⟩
          ·
            go_simp
            obtain ⟨y5, hy5⟩ : ∃ W, W = (y1.alloc (.cells #[.slice none 0 0, .slice none 0 0, .slice none 0 0, .slice none 0 0, .slice none 0 0, .slice none 0 0, .slice none 0 0, .slice none 0 0, .slice none 0 0, .slice none 0 0, .slice none 0 0, .slice none 0 0, .slice none 0 0, .slice none 0 0, .int .i64 0] 37)) := ⟨_, rfl⟩
            obtain ⟨g, hg⟩ : ∃ g, g = y1.heap.size := ⟨_, rfl⟩
            have HGW : Hid (w4.heap.size ≤ g) := Lib.hid (by rw [hg]; exact BY1.out.size)
            have hb5 : Below y1.heap.size y1 y5 := by rw [hy5]; exact ((Below.refl _ _).alloc (Nat.le_refl _) _)
            have BY5 := Lib.hid (BY1.out.trans (hb5.mono BY1.out.size))
            have HGX : Hid (y5.heap[g]? = some (.cells #[.slice none 0 0, .slice none 0 0, .slice none 0 0, .slice none 0 0, .slice none 0 0, .slice none 0 0, .slice none 0 0, .slice none 0 0, .slice none 0 0, .slice none 0 0, .slice none 0 0, .slice none 0 0, .slice none 0 0, .slice none 0 0, .int .i64 0] 37 (0, 0))) := Lib.hid (by rw [hy5, hg]; exact heap_alloc_new y1 _)
            have HGE : Hid (g < y5.heap.size) := Lib.hid (lt_of_block HGX.out)
            rw [← hy5, ← hg]
            refine hK.out _ _ (HST.out _ BY5.out) (fun _ => ?_)
            clear hK K' hy5 hb5 hg
            (try simp only [Act.put, List.getElem_toArray, List.getElem_cons_succ, List.getElem_cons_zero, List.setIfInBounds_toArray, List.set_cons_zero, List.set_cons_succ])
            refine wpAnyH_ready (rs := [2]) (by kernel_rfl) (by simp) ?_
            refine AllReadyH.cons rfl (fun K' hK => ?_) AllReadyH.nil
            go_simp
            refine ((HCO.out.take a exL0 ⟨#[98]⟩ ⟨#[110, 117, 116]⟩ ⟨#[]⟩ 1 3 y5 (HT4.out.below BY5.out) HN4.out (HCA.out 4 (by decide))).mono (fun e w' h5 => PutP.hb (i := 4) (L := exL0) (by decide) (takeL_things (Things.one (Qn.fits exQ)) _ _) (Nat.le_trans (takeL_len _ _ _) (by decide)) (HT4.out.below BY5.out) h5)).mono ?_
            rintro e y6 ⟨p, rfl, htp, hb6, hzp, hofp⟩
            have BY6 := Lib.hid (BY5.out.trans (hb6.mono BY5.out.size))
            rw [E3.out]
            have HGZ := HGX
            have HGX := Lib.hid ((hb6.block _ (lt_of_block HGX.out)).trans HGX.out)
            have HTP := Lib.hid htp
            have HZP := Lib.hid hzp
            have HOFP := Lib.hid (hofp g (HT4.out.offge HGW.out) (by have := lt_of_block HGZ.out; exact this))
            clear htp hzp hofp
            refine hK.out _ _ (HST.out _ BY6.out) (fun _ => ?_)
            clear hK K'
            (try simp only [Act.put, List.getElem_toArray, List.getElem_cons_succ, List.getElem_cons_zero, List.setIfInBounds_toArray, List.set_cons_zero, List.set_cons_succ])
            refine wpAnyH_take (i := 3) (v := .tuple #[.agg p.cells, .int .i64 0]) rfl (by kernel_rfl) (by kernel_rfl) (by kernel_rfl) (fun _ _ _ h => nomatch h.1) (.inl ⟨by kernel_rfl, fun w hw => by clear hw; go_simp⟩) (by assumption) ?_
            (try simp only [Act.put, List.getElem_toArray, List.getElem_cons_succ, List.getElem_cons_zero, List.setIfInBounds_toArray, List.set_cons_zero, List.set_cons_succ])
            refine wpAnyH_take (i := 4) (v := .agg p.cells) rfl (by kernel_rfl) (by kernel_rfl) (by kernel_rfl) (fun _ _ _ h => nomatch h.1) (.inl ⟨by kernel_rfl, fun w hw => by clear hw; go_simp⟩) (by assumption) ?_
            (try simp only [Act.put, List.getElem_toArray, List.getElem_cons_succ, List.getElem_cons_zero, List.setIfInBounds_toArray, List.set_cons_zero, List.set_cons_succ])
            refine wpAnyH_take (i := 5) (v := .int .i64 0) rfl (by kernel_rfl) (by kernel_rfl) (by kernel_rfl) (fun _ _ _ h => nomatch h.1) (.inl ⟨by kernel_rfl, fun w hw => by clear hw; go_simp⟩) (by assumption) ?_
            (try simp only [Act.put, List.getElem_toArray, List.getElem_cons_succ, List.getElem_cons_zero, List.setIfInBounds_toArray, List.set_cons_zero, List.set_cons_succ])
            refine wpAnyH_ready (rs := [7]) (by kernel_rfl) (by simp) ?_
            refine AllReadyH.cons rfl (fun K' hK => ?_) AllReadyH.nil
            rw [if_pos (by kernel_rfl)]
            refine wp_store_row 37 (.tmp 6) (.tmp 38) rfl g p.cells rfl rfl _ _ HGX.out (HSH.out _) rfl (H1C.out _) ?_
            obtain ⟨y7, hy7⟩ : ∃ W, W = y6.setRow g p.cells := ⟨_, rfl⟩
            have BY7 : Hid (Below w4.heap.size w4 y7) := Lib.hid (by rw [hy7]; exact setRow_below BY6.out HGW.out _)
            have HGY : Hid (y7.heap[g]? = some (.cells p.cells 37 (0, 0))) := Lib.hid (by rw [hy7]; exact setRow_heap _ _ _ _ _ _ HGX.out)
            have HTQ := Lib.hid (HTP.out.setRowOff HOFP.out p.cells)
            rw [← hy7] at HTQ
            have HTP := HTQ
            rw [← hy7]
            have HGX := HGY
            refine hK.out _ _ (HST.out _ BY7.out) (fun _ => ?_)
            clear hK K' hy7
            (try simp only [Act.put, List.getElem_toArray, List.getElem_cons_succ, List.getElem_cons_zero])
            refine wpAnyH_take (i := 8) (v := .int .i64 0) rfl (by kernel_rfl) (by kernel_rfl) (by kernel_rfl) (fun _ _ _ h => nomatch h.1) (.inl ⟨by kernel_rfl, fun w hw => by clear hw; go_simp⟩) (by assumption) ?_
            (try simp only [Act.put, List.getElem_toArray, List.getElem_cons_succ, List.getElem_cons_zero, List.setIfInBounds_toArray, List.set_cons_zero, List.set_cons_succ])
            refine wpAnyH_done (by kernel_rfl) ?_ _
            exact ⟨rfl, g, p, rfl, Lib.hid ⟨BY7.out, HGW.out, HGX.out, HTP.out⟩⟩
        ·
          go_simp
          obtain ⟨y8, hy8⟩ : ∃ W, W = (w4.alloc (.cells #[.slice none 0 0, .slice none 0 0, .slice none 0 0, .slice none 0 0, .slice none 0 0, .slice none 0 0, .slice none 0 0, .slice none 0 0, .slice none 0 0, .slice none 0 0, .slice none 0 0, .slice none 0 0, .slice none 0 0, .slice none 0 0, .int .i64 0] 37)).drew := ⟨_, rfl⟩
          obtain ⟨g, hg⟩ : ∃ g, g = w4.heap.size := ⟨_, rfl⟩
          have HGW : Hid (w4.heap.size ≤ g) := Lib.hid (by rw [hg]; exact Nat.le_refl _)
          have hb8 : Below w4.heap.size w4 y8 := by rw [hy8]; exact ((Below.refl _ _).alloc (Nat.le_refl _) _).drew
          have BY8 := Lib.hid (hb8)
          have HGX : Hid (y8.heap[g]? = some (.cells #[.slice none 0 0, .slice none 0 0, .slice none 0 0, .slice none 0 0, .slice none 0 0, .slice none 0 0, .slice none 0 0, .slice none 0 0, .slice none 0 0, .slice none 0 0, .slice none 0 0, .slice none 0 0, .slice none 0 0, .slice none 0 0, .int .i64 0] 37 (0, 0))) := Lib.hid (by rw [hy8, hg]; exact heap_alloc_new w4 _)
          have HGE : Hid (g < y8.heap.size) := Lib.hid (lt_of_block HGX.out)
          rw [← hy8, ← hg]
          refine hK.out _ _ (HST.out _ BY8.out) (fun _ => ?_)
          clear hK K' hy8 hb8 hg
          (try simp only [Act.put, List.getElem_toArray, List.getElem_cons_succ, List.getElem_cons_zero, List.setIfInBounds_toArray, List.set_cons_zero, List.set_cons_succ])
          refine wpAnyH_ready (rs := [1]) (by kernel_rfl) (by simp) ?_
          refine AllReadyH.cons rfl (fun K' hK => ?_) AllReadyH.nil
          go_simp
          refine (HNU.out y8).mono ?_
          rintro e y9 ⟨rfl, hb9⟩
          have BY9 := Lib.hid (BY8.out.trans (hb9.mono BY8.out.size))
          have HGZ := HGX
          have HGX := Lib.hid ((hb9.block _ (lt_of_block HGX.out)).trans HGX.out)
          refine hK.out _ _ (HST.out _ BY9.out) (fun _ => ?_)
          clear hK K'
          (try simp only [Act.put, List.getElem_toArray, List.getElem_cons_succ, List.getElem_cons_zero, List.setIfInBounds_toArray, List.set_cons_zero, List.set_cons_succ])
          refine wpAnyH_ready (rs := [2]) (by kernel_rfl) (by simp) ?_
          refine AllReadyH.cons rfl (fun K' hK => ?_) AllReadyH.nil
          go_simp
          refine ((HCO.out.take a exL0 ⟨#[98]⟩ ⟨#[110, 117, 116]⟩ ⟨#[]⟩ 1 3 y9 (HT4.out.below BY9.out) HN4.out (HCA.out 4 (by decide))).mono (fun e w' h5 => PutP.hb (i := 4) (L := exL0) (by decide) (takeL_things (Things.one (Qn.fits exQ)) _ _) (Nat.le_trans (takeL_len _ _ _) (by decide)) (HT4.out.below BY9.out) h5)).mono ?_
          rintro e y10 ⟨p, rfl, htp, hb10, hzp, hofp⟩
          have BY10 := Lib.hid (BY9.out.trans (hb10.mono BY9.out.size))
          rw [E3.out]
          have HGZ := HGX
          have HGX := Lib.hid ((hb10.block _ (lt_of_block HGX.out)).trans HGX.out)
          have HTP := Lib.hid htp
          have HZP := Lib.hid hzp
          have HOFP := Lib.hid (hofp g (HT4.out.offge HGW.out) (by have := lt_of_block HGZ.out; exact this))
          clear htp hzp hofp
          refine hK.out _ _ (HST.out _ BY10.out) (fun _ => ?_)
          clear hK K'
          (try simp only [Act.put, List.getElem_toArray, List.getElem_cons_succ, List.getElem_cons_zero, List.setIfInBounds_toArray, List.set_cons_zero, List.set_cons_succ])
          refine wpAnyH_take (i := 3) (v := .tuple #[.agg p.cells, .int .i64 0]) rfl (by kernel_rfl) (by kernel_rfl) (by kernel_rfl) (fun _ _ _ h => nomatch h.1) (.inl ⟨by kernel_rfl, fun w hw => by clear hw; go_simp⟩) (by assumption) ?_
          (try simp only [Act.put, List.getElem_toArray, List.getElem_cons_succ, List.getElem_cons_zero, List.setIfInBounds_toArray, List.set_cons_zero, List.set_cons_succ])
          refine wpAnyH_take (i := 4) (v := .agg p.cells) rfl (by kernel_rfl) (by kernel_rfl) (by kernel_rfl) (fun _ _ _ h => nomatch h.1) (.inl ⟨by kernel_rfl, fun w hw => by clear hw; go_simp⟩) (by assumption) ?_
          (try simp only [Act.put, List.getElem_toArray, List.getElem_cons_succ, List.getElem_cons_zero, List.setIfInBounds_toArray, List.set_cons_zero, List.set_cons_succ])
          refine wpAnyH_take (i := 5) (v := .int .i64 0) rfl (by kernel_rfl) (by kernel_rfl) (by kernel_rfl) (fun _ _ _ h => nomatch h.1) (.inl ⟨by kernel_rfl, fun w hw => by clear hw; go_simp⟩) (by assumption) ?_
          (try simp only [Act.put, List.getElem_toArray, List.getElem_cons_succ, List.getElem_cons_zero, List.setIfInBounds_toArray, List.set_cons_zero, List.set_cons_succ])
          refine wpAnyH_ready (rs := [7]) (by kernel_rfl) (by simp) ?_
          refine AllReadyH.cons rfl (fun K' hK => ?_) AllReadyH.nil
          rw [if_pos (by kernel_rfl)]
          refine wp_store_row 37 (.tmp 6) (.tmp 38) rfl g p.cells rfl rfl _ _ HGX.out (HSH.out _) rfl (H1C.out _) ?_
          obtain ⟨y11, hy11⟩ : ∃ W, W = y10.setRow g p.cells := ⟨_, rfl⟩
          have BY11 : Hid (Below w4.heap.size w4 y11) := Lib.hid (by rw [hy11]; exact setRow_below BY10.out HGW.out _)
          have HGY : Hid (y11.heap[g]? = some (.cells p.cells 37 (0, 0))) := Lib.hid (by rw [hy11]; exact setRow_heap _ _ _ _ _ _ HGX.out)
          have HTQ := Lib.hid (HTP.out.setRowOff HOFP.out p.cells)
          rw [← hy11] at HTQ
          have HTP := HTQ
          rw [← hy11]
          have HGX := HGY
          refine hK.out _ _ (HST.out _ BY11.out) (fun _ => ?_)
          clear hK K' hy11
          (try simp only [Act.put, List.getElem_toArray, List.getElem_cons_succ, List.getElem_cons_zero])
          refine wpAnyH_take (i := 8) (v := .int .i64 0) rfl (by kernel_rfl) (by kernel_rfl) (by kernel_rfl) (fun _ _ _ h => nomatch h.1) (.inl ⟨by kernel_rfl, fun w hw => by clear hw; go_simp⟩) (by assumption) ?_
          (try simp only [Act.put, List.getElem_toArray, List.getElem_cons_succ, List.getElem_cons_zero, List.setIfInBounds_toArray, List.set_cons_zero, List.set_cons_succ])
          refine wpAnyH_done (by kernel_rfl) ?_ _
          exact ⟨rfl, g, p, rfl, Lib.hid ⟨BY11.out, HGW.out, HGX.out, HTP.out⟩⟩
      · intro g5 p5 w5 hR
        have HA5 := Lib.hid ((hR.out.1.block _ (lt_of_block HA4.out)).trans HA4.out)
        have HB5 := Lib.hid ((hR.out.1.block _ (lt_of_block HB4.out)).trans HB4.out)
        have HC5 := Lib.hid ((hR.out.1.block _ (lt_of_block HC4.out)).trans HC4.out)
        have B5 := Lib.hid (B4.out.trans (hR.out.1.mono B4.out.size))
        have HT5 := Lib.hid (HT4.out.below hR.out.1)
        have HPHB5 := Lib.hid (HPHB4.out.below hR.out.1)
        have HPHC5 := Lib.hid (HPHC4.out.below hR.out.1)
        have HD5 := Lib.hid hR.out.2.2.1
        have HPHD5 := Lib.hid hR.out.2.2.2
        clear hR HST
        go_wp2_with fail
        have HST : Hid (∀ X, Below w5.heap.size w5 X → X.rangeAt (w1.heap.size + 1) 0 a.cells.toList) := Lib.hid (fun X hX => range_row0 ((hX.block _ (lt_of_block HA5.out)).trans HA5.out))
        apply region_to2 (R := fun g (p : Hs) W => Hid (Below w5.heap.size w5 W ∧ w5.heap.size ≤ g ∧ W.heap[g]? = some (.cells p.cells 37 (0, 0)) ∧ (HT p (setE (holdE (exL0 4) (Ky.mk ⟨#[98]⟩ ⟨#[110, 117, 116]⟩ ⟨#[]⟩ 1) 4) exL0 4 (holdL (exL0 4) (Ky.mk ⟨#[98]⟩ ⟨#[110, 117, 116]⟩ ⟨#[]⟩ 1) 4)) W)))
        · refine wp_region_held_drew (S := (fun w' => w'.rangeAt (w1.heap.size + 1) 0 a.cells.toList)) (by kernel_rfl) (HST.out _ (Below.refl w5.heap.size w5).drew) (fun dd0 => ?_)
          refine wpAnyH_take (i := 0) (v := .agg a.cells) rfl (by kernel_rfl) (by kernel_rfl) (by kernel_rfl) (fun _ _ _ h => nomatch h.1) (yieldsIf_load_mid (by kernel_rfl) 37 (.tmp 1) rfl (w1.heap.size + 1) 0 rfl a.cells.toList _ (fun w h => h) huh rfl (HSHL.out _)) (by assumption) ?_
          (try simp only [Act.put, List.getElem_toArray, List.getElem_cons_zero, List.setIfInBounds_toArray, List.set_cons_zero, List.set_cons_succ])
          refine wpAnyH_ready (rs := [1, 6]) (by kernel_rfl) (by simp) ?_
          refine AllReadyH.cons rfl (fun K' hK => ?_) (AllReadyH.cons rfl (fun K' hK => ?_) AllReadyH.nil)
          ·
            go_simp
            refine (HNU.out w5.drew).mono ?_
            rintro e y1 ⟨rfl, hb1⟩
            have BY1 := Lib.hid ((Below.refl w5.heap.size w5).drew.trans (hb1.mono (Below.refl w5.heap.size w5).drew.size))
            refine hK.out _ _ (HST.out _ BY1.out) (fun _ => ?_)
            clear hK K'
            (try simp only [Act.put, List.getElem_toArray, List.getElem_cons_succ, List.getElem_cons_zero, List.setIfInBounds_toArray, List.set_cons_zero, List.set_cons_succ])
            refine wpAnyH_ready (rs := [2, 6]) (by kernel_rfl) (by simp) ?_
            refine AllReadyH.cons rfl (fun K' hK => ?_) (AllReadyH.cons rfl (fun K' hK => ?_) AllReadyH.nil)
            ·
              go_simp
              refine ((HCO.out.hold a exL0 ⟨#[98]⟩ ⟨#[110, 117, 116]⟩ ⟨#[]⟩ 1 4 y1 (HT5.out.below BY1.out) HN4.out (HCA.out 4 (by decide))).mono (fun e w' h5 => PutP.hb (i := 4) (L := exL0) (by decide) (holdL_things (Things.one (Qn.fits exQ)) _ _) (Nat.le_trans (holdL_len _ _ _) (by decide)) (HT5.out.below BY1.out) h5)).mono ?_
              rintro e y2 ⟨p, rfl, htp, hb2, hzp, hofp⟩
              have BY2 := Lib.hid (BY1.out.trans (hb2.mono BY1.out.size))
              rw [E4.out]
              have HTP := Lib.hid htp
              have HZP := Lib.hid hzp
              clear htp hzp hofp
              refine hK.out _ _ (HST.out _ BY2.out) (fun _ => ?_)
              clear hK K'
              (try simp only [Act.put, List.getElem_toArray, List.getElem_cons_succ, List.getElem_cons_zero, List.setIfInBounds_toArray, List.set_cons_zero, List.set_cons_succ])
              refine wpAnyH_take (i := 3) (v := .tuple #[.agg p.cells, .int .i64 28]) rfl (by kernel_rfl) (by kernel_rfl) (by kernel_rfl) (fun _ _ _ h => nomatch h.1) (.inl ⟨by kernel_rfl, fun w hw => by clear hw; go_simp⟩) (by assumption) ?_
              (try simp only [Act.put, List.getElem_toArray, List.getElem_cons_succ, List.getElem_cons_zero, List.setIfInBounds_toArray, List.set_cons_zero, List.set_cons_succ])
              refine wpAnyH_take (i := 4) (v := .agg p.cells) rfl (by kernel_rfl) (by kernel_rfl) (by kernel_rfl) (fun _ _ _ h => nomatch h.1) (.inl ⟨by kernel_rfl, fun w hw => by clear hw; go_simp⟩) (by assumption) ?_
              (try simp only [Act.put, List.getElem_toArray, List.getElem_cons_succ, List.getElem_cons_zero, List.setIfInBounds_toArray, List.set_cons_zero, List.set_cons_succ])
              refine wpAnyH_take (i := 5) (v := .int .i64 28) rfl (by kernel_rfl) (by kernel_rfl) (by kernel_rfl) (fun _ _ _ h => nomatch h.1) (.inl ⟨by kernel_rfl, fun w hw => by clear hw; go_simp⟩) (by assumption) ?_
              (try simp only [Act.put, List.getElem_toArray, List.getElem_cons_succ, List.getElem_cons_zero, List.setIfInBounds_toArray, List.set_cons_zero, List.set_cons_succ])
              refine wpAnyH_ready (rs := [6]) (by kernel_rfl) (by simp) ?_
              refine AllReadyH.cons rfl (fun K' hK => ?_) AllReadyH.nil
              go_simp
              obtain ⟨y3, hy3⟩ : ∃ W, W = (y2.alloc (.cells #[.slice none 0 0, .slice none 0 0, .slice none 0 0, .slice none 0 0, .slice none 0 0, .slice none 0 0, .slice none 0 0, .slice none 0 0, .slice none 0 0, .slice none 0 0, .slice none 0 0, .slice none 0 0, .slice none 0 0, .slice none 0 0, .int .i64 0] 37)) := ⟨_, rfl⟩
              obtain ⟨g, hg⟩ : ∃ g, g = y2.heap.size := ⟨_, rfl⟩
              have HGW : Hid (w5.heap.size ≤ g) := Lib.hid (by rw [hg]; exact BY2.out.size)
              have hb3 : Below y2.heap.size y2 y3 := by rw [hy3]; exact ((Below.refl _ _).alloc (Nat.le_refl _) _)
              have BY3 := Lib.hid (BY2.out.trans (hb3.mono BY2.out.size))
              have HGX : Hid (y3.heap[g]? = some (.cells #[.slice none 0 0, .slice none 0 0, .slice none 0 0, .slice none 0 0, .slice none 0 0, .slice none 0 0, .slice none 0 0, .slice none 0 0, .slice none 0 0, .slice none 0 0, .slice none 0 0, .slice none 0 0, .slice none 0 0, .slice none 0 0, .int .i64 0] 37 (0, 0))) := Lib.hid (by rw [hy3, hg]; exact heap_alloc_new y2 _)
              have HGE : Hid (g < y3.heap.size) := Lib.hid (lt_of_block HGX.out)
              rw [← hy3, ← hg]
              have HOFP := Lib.hid (HTP.out.offge (Nat.le_of_eq hg.symm))
              have HTP := Lib.hid (HTP.out.below hb3)
              refine hK.out _ _ (HST.out _ BY3.out) (fun _ => ?_)
              clear hK K' hy3 hb3 hg
              (try simp only [Act.put, List.getElem_toArray, List.getElem_cons_succ, List.getElem_cons_zero, List.setIfInBounds_toArray, List.set_cons_zero, List.set_cons_succ])
              refine wpAnyH_ready (rs := [7]) (by kernel_rfl) (by simp) ?_
              refine AllReadyH.cons rfl (fun K' hK => ?_) AllReadyH.nil
              rw [if_pos (by kernel_rfl)]
              refine wp_store_row 37 (.tmp 8) (.tmp 44) rfl g p.cells rfl rfl _ _ HGX.out (HSH.out _) rfl (H1C.out _) ?_
              obtain ⟨y4, hy4⟩ : ∃ W, W = y3.setRow g p.cells := ⟨_, rfl⟩
              have BY4 : Hid (Below w5.heap.size w5 y4) := Lib.hid (by rw [hy4]; exact setRow_below BY3.out HGW.out _)
              have HGY : Hid (y4.heap[g]? = some (.cells p.cells 37 (0, 0))) := Lib.hid (by rw [hy4]; exact setRow_heap _ _ _ _ _ _ HGX.out)
              have HTQ := Lib.hid (HTP.out.setRowOff HOFP.out p.cells)
              rw [← hy4] at HTQ
              have HTP := HTQ
              rw [← hy4]
              have HGX := HGY
              refine hK.out _ _ (HST.out _ BY4.out) (fun _ => ?_)
              clear hK K' hy4
              (try simp only [Act.put, List.getElem_toArray, List.getElem_cons_succ, List.getElem_cons_zero])
              refine wpAnyH_take (i := 8) (v := .int .i64 28) rfl (by kernel_rfl) (by kernel_rfl) (by kernel_rfl) (fun _ _ _ h => nomatch h.1) (.inl ⟨by kernel_rfl, fun w hw => by clear hw; go_simp⟩) (by assumption) ?_
              (try simp only [Act.put, List.getElem_toArray, List.getElem_cons_succ, List.getElem_cons_zero, List.setIfInBounds_toArray, List.set_cons_zero, List.set_cons_succ])
              refine wpAnyH_done (by kernel_rfl) ?_ _
              exact ⟨rfl, g, p, rfl, Lib.hid ⟨BY4.out, HGW.out, HGX.out, HTP.out⟩⟩
            ·
              go_simp
              obtain ⟨y5, hy5⟩ : ∃ W, W = (y1.alloc (.cells #[.slice none 0 0, .slice none 0 0, .slice none 0 0, .slice none 0 0, .slice none 0 0, .slice none 0 0, .slice none 0 0, .slice none 0 0, .slice none 0 0, .slice none 0 0, .slice none 0 0, .slice none 0 0, .slice none 0 0, .slice none 0 0, .int .i64 0] 37)) := ⟨_, rfl⟩
              obtain ⟨g, hg⟩ : ∃ g, g = y1.heap.size := ⟨_, rfl⟩
              have HGW : Hid (w5.heap.size ≤ g) := Lib.hid (by rw [hg]; exact BY1.out.size)
              have hb5 : Below y1.heap.size y1 y5 := by rw [hy5]; exact ((Below.refl _ _).alloc (Nat.le_refl _) _)
              have BY5 := Lib.hid (BY1.out.trans (hb5.mono BY1.out.size))
              have HGX : Hid (y5.heap[g]? = some (.cells #[.slice none 0 0, .slice none 0 0, .slice none 0 0, .slice none 0 0, .slice none 0 0, .slice none 0 0, .slice none 0 0, .slice none 0 0, .slice none 0 0, .slice none 0 0, .slice none 0 0, .slice none 0 0, .slice none 0 0, .slice none 0 0, .int .i64 0] 37 (0, 0))) := Lib.hid (by rw [hy5, hg]; exact heap_alloc_new y1 _)
              have HGE : Hid (g < y5.heap.size) := Lib.hid (lt_of_block HGX.out)
              rw [← hy5, ← hg]
              refine hK.out _ _ (HST.out _ BY5.out) (fun _ => ?_)
              clear hK K' hy5 hb5 hg
              (try simp only [Act.put, List.getElem_toArray, List.getElem_cons_succ, List.getElem_cons_zero, List.setIfInBounds_toArray, List.set_cons_zero, List.set_cons_succ])
              refine wpAnyH_ready (rs := [2]) (by kernel_rfl) (by simp) ?_
              refine AllReadyH.cons rfl (fun K' hK => ?_) AllReadyH.nil
              go_simp
              refine ((HCO.out.hold a exL0 ⟨#[98]⟩ ⟨#[110, 117, 116]⟩ ⟨#[]⟩ 1 4 y5 (HT5.out.below BY5.out) HN4.out (HCA.out 4 (by decide))).mono (fun e w' h5 => PutP.hb (i := 4) (L := exL0) (by decide) (holdL_things (Things.one (Qn.fits exQ)) _ _) (Nat.le_trans (holdL_len _ _ _) (by decide)) (HT5.out.below BY5.out) h5)).mono ?_
              rintro e y6 ⟨p, rfl, htp, hb6, hzp, hofp⟩
              have BY6 := Lib.hid (BY5.out.trans (hb6.mono BY5.out.size))
              rw [E4.out]
              have HGZ := HGX
              have HGX := Lib.hid ((hb6.block _ (lt_of_block HGX.out)).trans HGX.out)
              have HTP := Lib.hid htp
              have HZP := Lib.hid hzp
              have HOFP := Lib.hid (hofp g (HT5.out.offge HGW.out) (by have := lt_of_block HGZ.out; exact this))
              clear htp hzp hofp
              refine hK.out _ _ (HST.out _ BY6.out) (fun _ => ?_)
              clear hK K'
              (try simp only [Act.put, List.getElem_toArray, List.getElem_cons_succ, List.getElem_cons_zero, List.setIfInBounds_toArray, List.set_cons_zero, List.set_cons_succ])
              refine wpAnyH_take (i := 3) (v := .tuple #[.agg p.cells, .int .i64 28]) rfl (by kernel_rfl) (by kernel_rfl) (by kernel_rfl) (fun _ _ _ h => nomatch h.1) (.inl ⟨by kernel_rfl, fun w hw => by clear hw; go_simp⟩) (by assumption) ?_
              (try simp only [Act.put, List.getElem_toArray, List.getElem_cons_succ, List.getElem_cons_zero, List.setIfInBounds_toArray, List.set_cons_zero, List.set_cons_succ])
              refine wpAnyH_take (i := 4) (v := .agg p.cells) rfl (by kernel_rfl) (by kernel_rfl) (by kernel_rfl) (fun _ _ _ h => nomatch h.1) (.inl ⟨by kernel_rfl, fun w hw => by clear hw; go_simp⟩) (by assumption) ?_
              (try simp only [Act.put, List.getElem_toArray, List.getElem_cons_succ, List.getElem_cons_zero, List.setIfInBounds_toArray, List.set_cons_zero, List.set_cons_succ])
              refine wpAnyH_take (i := 5) (v := .int .i64 28) rfl (by kernel_rfl) (by kernel_rfl) (by kernel_rfl) (fun _ _ _ h => nomatch h.1) (.inl ⟨by kernel_rfl, fun w hw => by clear hw; go_simp⟩) (by assumption) ?_
              (try simp only [Act.put, List.getElem_toArray, List.getElem_cons_succ, List.getElem_cons_zero, List.setIfInBounds_toArray, List.set_cons_zero, List.set_cons_succ])
              refine wpAnyH_ready (rs := [7]) (by kernel_rfl) (by simp) ?_
              refine AllReadyH.cons rfl (fun K' hK => ?_) AllReadyH.nil
              rw [if_pos (by kernel_rfl)]
              refine wp_store_row 37 (.tmp 8) (.tmp 44) rfl g p.cells rfl rfl _ _ HGX.out (HSH.out _) rfl (H1C.out _) ?_
              obtain ⟨y7, hy7⟩ : ∃ W, W = y6.setRow g p.cells := ⟨_, rfl⟩
              have BY7 : Hid (Below w5.heap.size w5 y7) := Lib.hid (by rw [hy7]; exact setRow_below BY6.out HGW.out _)
              have HGY : Hid (y7.heap[g]? = some (.cells p.cells 37 (0, 0))) := Lib.hid (by rw [hy7]; exact setRow_heap _ _ _ _ _ _ HGX.out)
              have HTQ := Lib.hid (HTP.out.setRowOff HOFP.out p.cells)
              rw [← hy7] at HTQ
              have HTP := HTQ
              rw [← hy7]
              have HGX := HGY
              refine hK.out _ _ (HST.out _ BY7.out) (fun _ => ?_)
              clear hK K' hy7
              (try simp only [Act.put, List.getElem_toArray, List.getElem_cons_succ, List.getElem_cons_zero])
              refine wpAnyH_take (i := 8) (v := .int .i64 28) rfl (by kernel_rfl) (by kernel_rfl) (by kernel_rfl) (fun _ _ _ h => nomatch h.1) (.inl ⟨by kernel_rfl, fun w hw => by clear hw; go_simp⟩) (by assumption) ?_
              (try simp only [Act.put, List.getElem_toArray, List.getElem_cons_succ, List.getElem_cons_zero, List.setIfInBounds_toArray, List.set_cons_zero, List.set_cons_succ])
              refine wpAnyH_done (by kernel_rfl) ?_ _
              exact ⟨rfl, g, p, rfl, Lib.hid ⟨BY7.out, HGW.out, HGX.out, HTP.out⟩⟩
          ·
            go_simp
            obtain ⟨y8, hy8⟩ : ∃ W, W = (w5.alloc (.cells #[.slice none 0 0, .slice none 0 0, .slice none 0 0, .slice none 0 0, .slice none 0 0, .slice none 0 0, .slice none 0 0, .slice none 0 0, .slice none 0 0, .slice none 0 0, .slice none 0 0, .slice none 0 0, .slice none 0 0, .slice none 0 0, .int .i64 0] 37)).drew := ⟨_, rfl⟩
            obtain ⟨g, hg⟩ : ∃ g, g = w5.heap.size := ⟨_, rfl⟩
            have HGW : Hid (w5.heap.size ≤ g) := Lib.hid (by rw [hg]; exact Nat.le_refl _)
            have hb8 : Below w5.heap.size w5 y8 := by rw [hy8]; exact ((Below.refl _ _).alloc (Nat.le_refl _) _).drew
            have BY8 := Lib.hid (hb8)
            have HGX : Hid (y8.heap[g]? = some (.cells #[.slice none 0 0, .slice none 0 0, .slice none 0 0, .slice none 0 0, .slice none 0 0, .slice none 0 0, .slice none 0 0, .slice none 0 0, .slice none 0 0, .slice none 0 0, .slice none 0 0, .slice none 0 0, .slice none 0 0, .slice none 0 0, .int .i64 0] 37 (0, 0))) := Lib.hid (by rw [hy8, hg]; exact heap_alloc_new w5 _)
            have HGE : Hid (g < y8.heap.size) := Lib.hid (lt_of_block HGX.out)
            rw [← hy8, ← hg]
            refine hK.out _ _ (HST.out _ BY8.out) (fun _ => ?_)
            clear hK K' hy8 hb8 hg
            (try simp only [Act.put, List.getElem_toArray, List.getElem_cons_succ, List.getElem_cons_zero, List.setIfInBounds_toArray, List.set_cons_zero, List.set_cons_succ])
            refine wpAnyH_ready (rs := [1]) (by kernel_rfl) (by simp) ?_
            refine AllReadyH.cons rfl (fun K' hK => ?_) AllReadyH.nil
            go_simp
            refine (HNU.out y8).mono ?_
            rintro e y9 ⟨rfl, hb9⟩
            have BY9 := Lib.hid (BY8.out.trans (hb9.mono BY8.out.size))
            have HGZ := HGX
            have HGX := Lib.hid ((hb9.block _ (lt_of_block HGX.out)).trans HGX.out)
            refine hK.out _ _ (HST.out _ BY9.out) (fun _ => ?_)
            clear hK K'
            (try simp only [Act.put, List.getElem_toArray, List.getElem_cons_succ, List.getElem_cons_zero, List.setIfInBounds_toArray, List.set_cons_zero, List.set_cons_succ])
            refine wpAnyH_ready (rs := [2]) (by kernel_rfl) (by simp) ?_
            refine AllReadyH.cons rfl (fun K' hK => ?_) AllReadyH.nil
            go_simp
            refine ((HCO.out.hold a exL0 ⟨#[98]⟩ ⟨#[110, 117, 116]⟩ ⟨#[]⟩ 1 4 y9 (HT5.out.below BY9.out) HN4.out (HCA.out 4 (by decide))).mono (fun e w' h5 => PutP.hb (i := 4) (L := exL0) (by decide) (holdL_things (Things.one (Qn.fits exQ)) _ _) (Nat.le_trans (holdL_len _ _ _) (by decide)) (HT5.out.below BY9.out) h5)).mono ?_
            rintro e y10 ⟨p, rfl, htp, hb10, hzp, hofp⟩
            have BY10 := Lib.hid (BY9.out.trans (hb10.mono BY9.out.size))
            rw [E4.out]
            have HGZ := HGX
            have HGX := Lib.hid ((hb10.block _ (lt_of_block HGX.out)).trans HGX.out)
            have HTP := Lib.hid htp
            have HZP := Lib.hid hzp
            have HOFP := Lib.hid (hofp g (HT5.out.offge HGW.out) (by have := lt_of_block HGZ.out; exact this))
            clear htp hzp hofp
            refine hK.out _ _ (HST.out _ BY10.out) (fun _ => ?_)
            clear hK K'
            (try simp only [Act.put, List.getElem_toArray, List.getElem_cons_succ, List.getElem_cons_zero, List.setIfInBounds_toArray, List.set_cons_zero, List.set_cons_succ])
            refine wpAnyH_take (i := 3) (v := .tuple #[.agg p.cells, .int .i64 28]) rfl (by kernel_rfl) (by kernel_rfl) (by kernel_rfl) (fun _ _ _ h => nomatch h.1) (.inl ⟨by kernel_rfl, fun w hw => by clear hw; go_simp⟩) (by assumption) ?_
            (try simp only [Act.put, List.getElem_toArray, List.getElem_cons_succ, List.getElem_cons_zero, List.setIfInBounds_toArray, List.set_cons_zero, List.set_cons_succ])
            refine wpAnyH_take (i := 4) (v := .agg p.cells) rfl (by kernel_rfl) (by kernel_rfl) (by kernel_rfl) (fun _ _ _ h => nomatch h.1) (.inl ⟨by kernel_rfl, fun w hw => by clear hw; go_simp⟩) (by assumption) ?_
            (try simp only [Act.put, List.getElem_toArray, List.getElem_cons_succ, List.getElem_cons_zero, List.setIfInBounds_toArray, List.set_cons_zero, List.set_cons_succ])
            refine wpAnyH_take (i := 5) (v := .int .i64 28) rfl (by kernel_rfl) (by kernel_rfl) (by kernel_rfl) (fun _ _ _ h => nomatch h.1) (.inl ⟨by kernel_rfl, fun w hw => by clear hw; go_simp⟩) (by assumption) ?_
            (try simp only [Act.put, List.getElem_toArray, List.getElem_cons_succ, List.getElem_cons_zero, List.setIfInBounds_toArray, List.set_cons_zero, List.set_cons_succ])
            refine wpAnyH_ready (rs := [7]) (by kernel_rfl) (by simp) ?_
            refine AllReadyH.cons rfl (fun K' hK => ?_) AllReadyH.nil
            rw [if_pos (by kernel_rfl)]
            refine wp_store_row 37 (.tmp 8) (.tmp 44) rfl g p.cells rfl rfl _ _ HGX.out (HSH.out _) rfl (H1C.out _) ?_
            obtain ⟨y11, hy11⟩ : ∃ W, W = y10.setRow g p.cells := ⟨_, rfl⟩
            have BY11 : Hid (Below w5.heap.size w5 y11) := Lib.hid (by rw [hy11]; exact setRow_below BY10.out HGW.out _)
            have HGY : Hid (y11.heap[g]? = some (.cells p.cells 37 (0, 0))) := Lib.hid (by rw [hy11]; exact setRow_heap _ _ _ _ _ _ HGX.out)
            have HTQ := Lib.hid (HTP.out.setRowOff HOFP.out p.cells)
            rw [← hy11] at HTQ
            have HTP := HTQ
            rw [← hy11]
            have HGX := HGY
            refine hK.out _ _ (HST.out _ BY11.out) (fun _ => ?_)
            clear hK K' hy11
            (try simp only [Act.put, List.getElem_toArray, List.getElem_cons_succ, List.getElem_cons_zero])
            refine wpAnyH_take (i := 8) (v := .int .i64 28) rfl (by kernel_rfl) (by kernel_rfl) (by kernel_rfl) (fun _ _ _ h => nomatch h.1) (.inl ⟨by kernel_rfl, fun w hw => by clear hw; go_simp⟩) (by assumption) ?_
            (try simp only [Act.put, List.getElem_toArray, List.getElem_cons_succ, List.getElem_cons_zero, List.setIfInBounds_toArray, List.set_cons_zero, List.set_cons_succ])
            refine wpAnyH_done (by kernel_rfl) ?_ _
            exact ⟨rfl, g, p, rfl, Lib.hid ⟨BY11.out, HGW.out, HGX.out, HTP.out⟩⟩
        · intro g6 p6 w6 hR
          have HA6 := Lib.hid ((hR.out.1.block _ (lt_of_block HA5.out)).trans HA5.out)
          have HB6 := Lib.hid ((hR.out.1.block _ (lt_of_block HB5.out)).trans HB5.out)
          have HC6 := Lib.hid ((hR.out.1.block _ (lt_of_block HC5.out)).trans HC5.out)
          have HD6 := Lib.hid ((hR.out.1.block _ (lt_of_block HD5.out)).trans HD5.out)
          have B6 := Lib.hid (B5.out.trans (hR.out.1.mono B5.out.size))
          have HT6 := Lib.hid (HT5.out.below hR.out.1)
          have HPHB6 := Lib.hid (HPHB5.out.below hR.out.1)
          have HPHC6 := Lib.hid (HPHC5.out.below hR.out.1)
          have HPHD6 := Lib.hid (HPHD5.out.below hR.out.1)
          have HE6 := Lib.hid hR.out.2.2.1
          have HPHE6 := Lib.hid hR.out.2.2.2
          clear hR HST
          go_wp2_with fail
          have HST : Hid (∀ X, Below w6.heap.size w6 X → X.rangeAt (w1.heap.size + 1) 0 a.cells.toList) := Lib.hid (fun X hX => range_row0 ((hX.block _ (lt_of_block HA6.out)).trans HA6.out))
          apply region_to2 (R := fun g (p : Hs) W => Hid (Below w6.heap.size w6 W ∧ w6.heap.size ≤ g ∧ W.heap[g]? = some (.cells p.cells 37 (0, 0)) ∧ (HT p (setE (holdE (exL0 4) (Ky.mk ⟨#[98]⟩ ⟨#[110, 117, 116]⟩ ⟨#[]⟩ 1) (-3)) exL0 4 (holdL (exL0 4) (Ky.mk ⟨#[98]⟩ ⟨#[110, 117, 116]⟩ ⟨#[]⟩ 1) (-3))) W)))
          · refine wp_region_held_drew (S := (fun w' => w'.rangeAt (w1.heap.size + 1) 0 a.cells.toList)) (by kernel_rfl) (HST.out _ (Below.refl w6.heap.size w6).drew) (fun dd0 => ?_)
            refine wpAnyH_take (i := 0) (v := .agg a.cells) rfl (by kernel_rfl) (by kernel_rfl) (by kernel_rfl) (fun _ _ _ h => nomatch h.1) (yieldsIf_load_mid (by kernel_rfl) 37 (.tmp 1) rfl (w1.heap.size + 1) 0 rfl a.cells.toList _ (fun w h => h) huh rfl (HSHL.out _)) (by assumption) ?_
            (try simp only [Act.put, List.getElem_toArray, List.getElem_cons_zero, List.setIfInBounds_toArray, List.set_cons_zero, List.set_cons_succ])
            refine wpAnyH_ready (rs := [1, 6]) (by kernel_rfl) (by simp) ?_
            refine AllReadyH.cons rfl (fun K' hK => ?_) (AllReadyH.cons rfl (fun K' hK => ?_) AllReadyH.nil)
            ·
              go_simp
              refine (HNU.out w6.drew).mono ?_
              rintro e y1 ⟨rfl, hb1⟩
              have BY1 := Lib.hid ((Below.refl w6.heap.size w6).drew.trans (hb1.mono (Below.refl w6.heap.size w6).drew.size))
              refine hK.out _ _ (HST.out _ BY1.out) (fun _ => ?_)
              clear hK K'
              (try simp only [Act.put, List.getElem_toArray, List.getElem_cons_succ, List.getElem_cons_zero, List.setIfInBounds_toArray, List.set_cons_zero, List.set_cons_succ])
              refine wpAnyH_ready (rs := [2, 6]) (by kernel_rfl) (by simp) ?_
              refine AllReadyH.cons rfl (fun K' hK => ?_) (AllReadyH.cons rfl (fun K' hK => ?_) AllReadyH.nil)
              ·
                go_simp
                refine ((HCO.out.hold a exL0 ⟨#[98]⟩ ⟨#[110, 117, 116]⟩ ⟨#[]⟩ 1 (-3) y1 (HT6.out.below BY1.out) HN4.out (HCA.out 4 (by decide))).mono (fun e w' h5 => PutP.hb (i := 4) (L := exL0) (by decide) (holdL_things (Things.one (Qn.fits exQ)) _ _) (Nat.le_trans (holdL_len _ _ _) (by decide)) (HT6.out.below BY1.out) h5)).mono ?_
                rintro e y2 ⟨p, rfl, htp, hb2, hzp, hofp⟩
                have BY2 := Lib.hid (BY1.out.trans (hb2.mono BY1.out.size))
                rw [E5.out]
                have HTP := Lib.hid htp
                have HZP := Lib.hid hzp
                clear htp hzp hofp
                refine hK.out _ _ (HST.out _ BY2.out) (fun _ => ?_)
                clear hK K'
                (try simp only [Act.put, List.getElem_toArray, List.getElem_cons_succ, List.getElem_cons_zero, List.setIfInBounds_toArray, List.set_cons_zero, List.set_cons_succ])
                refine wpAnyH_take (i := 3) (v := .tuple #[.agg p.cells, .int .i64 28]) rfl (by kernel_rfl) (by kernel_rfl) (by kernel_rfl) (fun _ _ _ h => nomatch h.1) (.inl ⟨by kernel_rfl, fun w hw => by clear hw; go_simp⟩) (by assumption) ?_
                (try simp only [Act.put, List.getElem_toArray, List.getElem_cons_succ, List.getElem_cons_zero, List.setIfInBounds_toArray, List.set_cons_zero, List.set_cons_succ])
                refine wpAnyH_take (i := 4) (v := .agg p.cells) rfl (by kernel_rfl) (by kernel_rfl) (by kernel_rfl) (fun _ _ _ h => nomatch h.1) (.inl ⟨by kernel_rfl, fun w hw => by clear hw; go_simp⟩) (by assumption) ?_
                (try simp only [Act.put, List.getElem_toArray, List.getElem_cons_succ, List.getElem_cons_zero, List.setIfInBounds_toArray, List.set_cons_zero, List.set_cons_succ])
                refine wpAnyH_take (i := 5) (v := .int .i64 28) rfl (by kernel_rfl) (by kernel_rfl) (by kernel_rfl) (fun _ _ _ h => nomatch h.1) (.inl ⟨by kernel_rfl, fun w hw => by clear hw; go_simp⟩) (by assumption) ?_
                (try simp only [Act.put, List.getElem_toArray, List.getElem_cons_succ, List.getElem_cons_zero, List.setIfInBounds_toArray, List.set_cons_zero, List.set_cons_succ])
                refine wpAnyH_ready (rs := [6]) (by kernel_rfl) (by simp) ?_
                refine AllReadyH.cons rfl (fun K' hK => ?_) AllReadyH.nil
                go_simp
                obtain ⟨y3, hy3⟩ : ∃ W, W = (y2.alloc (.cells #[.slice none 0 0, .slice none 0 0, .slice none 0 0, .slice none 0 0, .slice none 0 0, .slice none 0 0, .slice none 0 0, .slice none 0 0, .slice none 0 0, .slice none 0 0, .slice none 0 0, .slice none 0 0, .slice none 0 0, .slice none 0 0, .int .i64 0] 37)) := ⟨_, rfl⟩
                obtain ⟨g, hg⟩ : ∃ g, g = y2.heap.size := ⟨_, rfl⟩
                have HGW : Hid (w6.heap.size ≤ g) := Lib.hid (by rw [hg]; exact BY2.out.size)
                have hb3 : Below y2.heap.size y2 y3 := by rw [hy3]; exact ((Below.refl _ _).alloc (Nat.le_refl _) _)
                have BY3 := Lib.hid (BY2.out.trans (hb3.mono BY2.out.size))
                have HGX : Hid (y3.heap[g]? = some (.cells #[.slice none 0 0, .slice none 0 0, .slice none 0 0, .slice none 0 0, .slice none 0 0, .slice none 0 0, .slice none 0 0, .slice none 0 0, .slice none 0 0, .slice none 0 0, .slice none 0 0, .slice none 0 0, .slice none 0 0, .slice none 0 0, .int .i64 0] 37 (0, 0))) := Lib.hid (by rw [hy3, hg]; exact heap_alloc_new y2 _)
                have HGE : Hid (g < y3.heap.size) := Lib.hid (lt_of_block HGX.out)
                rw [← hy3, ← hg]
                have HOFP := Lib.hid (HTP.out.offge (Nat.le_of_eq hg.symm))
                have HTP := Lib.hid (HTP.out.below hb3)
                refine hK.out _ _ (HST.out _ BY3.out) (fun _ => ?_)
                clear hK K' hy3 hb3 hg
                (try simp only [Act.put, List.getElem_toArray, List.getElem_cons_succ, List.getElem_cons_zero, List.setIfInBounds_toArray, List.set_cons_zero, List.set_cons_succ])
                refine wpAnyH_ready (rs := [7]) (by kernel_rfl) (by simp) ?_
                refine AllReadyH.cons rfl (fun K' hK => ?_) AllReadyH.nil
                rw [if_pos (by kernel_rfl)]
                refine wp_store_row 37 (.tmp 10) (.tmp 50) rfl g p.cells rfl rfl _ _ HGX.out (HSH.out _) rfl (H1C.out _) ?_
                obtain ⟨y4, hy4⟩ : ∃ W, W = y3.setRow g p.cells := ⟨_, rfl⟩
                have BY4 : Hid (Below w6.heap.size w6 y4) := Lib.hid (by rw [hy4]; exact setRow_below BY3.out HGW.out _)
                have HGY : Hid (y4.heap[g]? = some (.cells p.cells 37 (0, 0))) := Lib.hid (by rw [hy4]; exact setRow_heap _ _ _ _ _ _ HGX.out)
                have HTQ := Lib.hid (HTP.out.setRowOff HOFP.out p.cells)
                rw [← hy4] at HTQ
                have HTP := HTQ
                rw [← hy4]
                have HGX := HGY
                refine hK.out _ _ (HST.out _ BY4.out) (fun _ => ?_)
                clear hK K' hy4
                (try simp only [Act.put, List.getElem_toArray, List.getElem_cons_succ, List.getElem_cons_zero])
                refine wpAnyH_take (i := 8) (v := .int .i64 28) rfl (by kernel_rfl) (by kernel_rfl) (by kernel_rfl) (fun _ _ _ h => nomatch h.1) (.inl ⟨by kernel_rfl, fun w hw => by clear hw; go_simp⟩) (by assumption) ?_
                (try simp only [Act.put, List.getElem_toArray, List.getElem_cons_succ, List.getElem_cons_zero, List.setIfInBounds_toArray, List.set_cons_zero, List.set_cons_succ])
                refine wpAnyH_done (by kernel_rfl) ?_ _
                exact ⟨rfl, g, p, rfl, Lib.hid ⟨BY4.out, HGW.out, HGX.out, HTP.out⟩⟩
              ·
                go_simp
                obtain ⟨y5, hy5⟩ : ∃ W, W = (y1.alloc (.cells #[.slice none 0 0, .slice none 0 0, .slice none 0 0, .slice none 0 0, .slice none 0 0, .slice none 0 0, .slice none 0 0, .slice none 0 0, .slice none 0 0, .slice none 0 0, .slice none 0 0, .slice none 0 0, .slice none 0 0, .slice none 0 0, .int .i64 0] 37)) := ⟨_, rfl⟩
                obtain ⟨g, hg⟩ : ∃ g, g = y1.heap.size := ⟨_, rfl⟩
                have HGW : Hid (w6.heap.size ≤ g) := Lib.hid (by rw [hg]; exact BY1.out.size)
                have hb5 : Below y1.heap.size y1 y5 := by rw [hy5]; exact ((Below.refl _ _).alloc (Nat.le_refl _) _)
                have BY5 := Lib.hid (BY1.out.trans (hb5.mono BY1.out.size))
                have HGX : Hid (y5.heap[g]? = some (.cells #[.slice none 0 0, .slice none 0 0, .slice none 0 0, .slice none 0 0, .slice none 0 0, .slice none 0 0, .slice none 0 0, .slice none 0 0, .slice none 0 0, .slice none 0 0, .slice none 0 0, .slice none 0 0, .slice none 0 0, .slice none 0 0, .int .i64 0] 37 (0, 0))) := Lib.hid (by rw [hy5, hg]; exact heap_alloc_new y1 _)
                have HGE : Hid (g < y5.heap.size) := Lib.hid (lt_of_block HGX.out)
                rw [← hy5, ← hg]
                refine hK.out _ _ (HST.out _ BY5.out) (fun _ => ?_)
                clear hK K' hy5 hb5 hg
                (try simp only [Act.put, List.getElem_toArray, List.getElem_cons_succ, List.getElem_cons_zero, List.setIfInBounds_toArray, List.set_cons_zero, List.set_cons_succ])
                refine wpAnyH_ready (rs := [2]) (by kernel_rfl) (by simp) ?_
                refine AllReadyH.cons rfl (fun K' hK => ?_) AllReadyH.nil
                go_simp
                refine ((HCO.out.hold a exL0 ⟨#[98]⟩ ⟨#[110, 117, 116]⟩ ⟨#[]⟩ 1 (-3) y5 (HT6.out.below BY5.out) HN4.out (HCA.out 4 (by decide))).mono (fun e w' h5 => PutP.hb (i := 4) (L := exL0) (by decide) (holdL_things (Things.one (Qn.fits exQ)) _ _) (Nat.le_trans (holdL_len _ _ _) (by decide)) (HT6.out.below BY5.out) h5)).mono ?_
                rintro e y6 ⟨p, rfl, htp, hb6, hzp, hofp⟩
                have BY6 := Lib.hid (BY5.out.trans (hb6.mono BY5.out.size))
                rw [E5.out]
                have HGZ := HGX
                have HGX := Lib.hid ((hb6.block _ (lt_of_block HGX.out)).trans HGX.out)
                have HTP := Lib.hid htp
                have HZP := Lib.hid hzp
                have HOFP := Lib.hid (hofp g (HT6.out.offge HGW.out) (by have := lt_of_block HGZ.out; exact this))
                clear htp hzp hofp
                refine hK.out _ _ (HST.out _ BY6.out) (fun _ => ?_)
                clear hK K'
                (try simp only [Act.put, List.getElem_toArray, List.getElem_cons_succ, List.getElem_cons_zero, List.setIfInBounds_toArray, List.set_cons_zero, List.set_cons_succ])
                refine wpAnyH_take (i := 3) (v := .tuple #[.agg p.cells, .int .i64 28]) rfl (by kernel_rfl) (by kernel_rfl) (by kernel_rfl) (fun _ _ _ h => nomatch h.1) (.inl ⟨by kernel_rfl, fun w hw => by clear hw; go_simp⟩) (by assumption) ?_
                (try simp only [Act.put, List.getElem_toArray, List.getElem_cons_succ, List.getElem_cons_zero, List.setIfInBounds_toArray, List.set_cons_zero, List.set_cons_succ])
                refine wpAnyH_take (i := 4) (v := .agg p.cells) rfl (by kernel_rfl) (by kernel_rfl) (by kernel_rfl) (fun _ _ _ h => nomatch h.1) (.inl ⟨by kernel_rfl, fun w hw => by clear hw; go_simp⟩) (by assumption) ?_
                (try simp only [Act.put, List.getElem_toArray, List.getElem_cons_succ, List.getElem_cons_zero, List.setIfInBounds_toArray, List.set_cons_zero, List.set_cons_succ])
                refine wpAnyH_take (i := 5) (v := .int .i64 28) rfl (by kernel_rfl) (by kernel_rfl) (by kernel_rfl) (fun _ _ _ h => nomatch h.1) (.inl ⟨by kernel_rfl, fun w hw => by clear hw; go_simp⟩) (by assumption) ?_
                (try simp only [Act.put, List.getElem_toArray, List.getElem_cons_succ, List.getElem_cons_zero, List.setIfInBounds_toArray, List.set_cons_zero, List.set_cons_succ])
                refine wpAnyH_ready (rs := [7]) (by kernel_rfl) (by simp) ?_
                refine AllReadyH.cons rfl (fun K' hK => ?_) AllReadyH.nil
                rw [if_pos (by kernel_rfl)]
                refine wp_store_row 37 (.tmp 10) (.tmp 50) rfl g p.cells rfl rfl _ _ HGX.out (HSH.out _) rfl (H1C.out _) ?_
                obtain ⟨y7, hy7⟩ : ∃ W, W = y6.setRow g p.cells := ⟨_, rfl⟩
                have BY7 : Hid (Below w6.heap.size w6 y7) := Lib.hid (by rw [hy7]; exact setRow_below BY6.out HGW.out _)
                have HGY : Hid (y7.heap[g]? = some (.cells p.cells 37 (0, 0))) := Lib.hid (by rw [hy7]; exact setRow_heap _ _ _ _ _ _ HGX.out)
                have HTQ := Lib.hid (HTP.out.setRowOff HOFP.out p.cells)
                rw [← hy7] at HTQ
                have HTP := HTQ
                rw [← hy7]
                have HGX := HGY
                refine hK.out _ _ (HST.out _ BY7.out) (fun _ => ?_)
                clear hK K' hy7
                (try simp only [Act.put, List.getElem_toArray, List.getElem_cons_succ, List.getElem_cons_zero])
                refine wpAnyH_take (i := 8) (v := .int .i64 28) rfl (by kernel_rfl) (by kernel_rfl) (by kernel_rfl) (fun _ _ _ h => nomatch h.1) (.inl ⟨by kernel_rfl, fun w hw => by clear hw; go_simp⟩) (by assumption) ?_
                (try simp only [Act.put, List.getElem_toArray, List.getElem_cons_succ, List.getElem_cons_zero, List.setIfInBounds_toArray, List.set_cons_zero, List.set_cons_succ])
                refine wpAnyH_done (by kernel_rfl) ?_ _
                exact ⟨rfl, g, p, rfl, Lib.hid ⟨BY7.out, HGW.out, HGX.out, HTP.out⟩⟩
            ·
              go_simp
              obtain ⟨y8, hy8⟩ : ∃ W, W = (w6.alloc (.cells #[.slice none 0 0, .slice none 0 0, .slice none 0 0, .slice none 0 0, .slice none 0 0, .slice none 0 0, .slice none 0 0, .slice none 0 0, .slice none 0 0, .slice none 0 0, .slice none 0 0, .slice none 0 0, .slice none 0 0, .slice none 0 0, .int .i64 0] 37)).drew := ⟨_, rfl⟩
              obtain ⟨g, hg⟩ : ∃ g, g = w6.heap.size := ⟨_, rfl⟩
              have HGW : Hid (w6.heap.size ≤ g) := Lib.hid (by rw [hg]; exact Nat.le_refl _)
              have hb8 : Below w6.heap.size w6 y8 := by rw [hy8]; exact ((Below.refl _ _).alloc (Nat.le_refl _) _).drew
              have BY8 := Lib.hid (hb8)
              have HGX : Hid (y8.heap[g]? = some (.cells #[.slice none 0 0, .slice none 0 0, .slice none 0 0, .slice none 0 0, .slice none 0 0, .slice none 0 0, .slice none 0 0, .slice none 0 0, .slice none 0 0, .slice none 0 0, .slice none 0 0, .slice none 0 0, .slice none 0 0, .slice none 0 0, .int .i64 0] 37 (0, 0))) := Lib.hid (by rw [hy8, hg]; exact heap_alloc_new w6 _)
              have HGE : Hid (g < y8.heap.size) := Lib.hid (lt_of_block HGX.out)
              rw [← hy8, ← hg]
              refine hK.out _ _ (HST.out _ BY8.out) (fun _ => ?_)
              clear hK K' hy8 hb8 hg
              (try simp only [Act.put, List.getElem_toArray, List.getElem_cons_succ, List.getElem_cons_zero, List.setIfInBounds_toArray, List.set_cons_zero, List.set_cons_succ])
              refine wpAnyH_ready (rs := [1]) (by kernel_rfl) (by simp) ?_
              refine AllReadyH.cons rfl (fun K' hK => ?_) AllReadyH.nil
              go_simp
              refine (HNU.out y8).mono ?_
              rintro e y9 ⟨rfl, hb9⟩
              have BY9 := Lib.hid (BY8.out.trans (hb9.mono BY8.out.size))
              have HGZ := HGX
              have HGX := Lib.hid ((hb9.block _ (lt_of_block HGX.out)).trans HGX.out)
              refine hK.out _ _ (HST.out _ BY9.out) (fun _ => ?_)
              clear hK K'
              (try simp only [Act.put, List.getElem_toArray, List.getElem_cons_succ, List.getElem_cons_zero, List.setIfInBounds_toArray, List.set_cons_zero, List.set_cons_succ])
              refine wpAnyH_ready (rs := [2]) (by kernel_rfl) (by simp) ?_
              refine AllReadyH.cons rfl (fun K' hK => ?_) AllReadyH.nil
              go_simp
              refine ((HCO.out.hold a exL0 ⟨#[98]⟩ ⟨#[110, 117, 116]⟩ ⟨#[]⟩ 1 (-3) y9 (HT6.out.below BY9.out) HN4.out (HCA.out 4 (by decide))).mono (fun e w' h5 => PutP.hb (i := 4) (L := exL0) (by decide) (holdL_things (Things.one (Qn.fits exQ)) _ _) (Nat.le_trans (holdL_len _ _ _) (by decide)) (HT6.out.below BY9.out) h5)).mono ?_
              rintro e y10 ⟨p, rfl, htp, hb10, hzp, hofp⟩
              have BY10 := Lib.hid (BY9.out.trans (hb10.mono BY9.out.size))
              rw [E5.out]
              have HGZ := HGX
              have HGX := Lib.hid ((hb10.block _ (lt_of_block HGX.out)).trans HGX.out)
              have HTP := Lib.hid htp
              have HZP := Lib.hid hzp
              have HOFP := Lib.hid (hofp g (HT6.out.offge HGW.out) (by have := lt_of_block HGZ.out; exact this))
              clear htp hzp hofp
              refine hK.out _ _ (HST.out _ BY10.out) (fun _ => ?_)
              clear hK K'
              (try simp only [Act.put, List.getElem_toArray, List.getElem_cons_succ, List.getElem_cons_zero, List.setIfInBounds_toArray, List.set_cons_zero, List.set_cons_succ])
              refine wpAnyH_take (i := 3) (v := .tuple #[.agg p.cells, .int .i64 28]) rfl (by kernel_rfl) (by kernel_rfl) (by kernel_rfl) (fun _ _ _ h => nomatch h.1) (.inl ⟨by kernel_rfl, fun w hw => by clear hw; go_simp⟩) (by assumption) ?_
              (try simp only [Act.put, List.getElem_toArray, List.getElem_cons_succ, List.getElem_cons_zero, List.setIfInBounds_toArray, List.set_cons_zero, List.set_cons_succ])
              refine wpAnyH_take (i := 4) (v := .agg p.cells) rfl (by kernel_rfl) (by kernel_rfl) (by kernel_rfl) (fun _ _ _ h => nomatch h.1) (.inl ⟨by kernel_rfl, fun w hw => by clear hw; go_simp⟩) (by assumption) ?_
              (try simp only [Act.put, List.getElem_toArray, List.getElem_cons_succ, List.getElem_cons_zero, List.setIfInBounds_toArray, List.set_cons_zero, List.set_cons_succ])
              refine wpAnyH_take (i := 5) (v := .int .i64 28) rfl (by kernel_rfl) (by kernel_rfl) (by kernel_rfl) (fun _ _ _ h => nomatch h.1) (.inl ⟨by kernel_rfl, fun w hw => by clear hw; go_simp⟩) (by assumption) ?_
              (try simp only [Act.put, List.getElem_toArray, List.getElem_cons_succ, List.getElem_cons_zero, List.setIfInBounds_toArray, List.set_cons_zero, List.set_cons_succ])
              refine wpAnyH_ready (rs := [7]) (by kernel_rfl) (by simp) ?_
              refine AllReadyH.cons rfl (fun K' hK => ?_) AllReadyH.nil
              rw [if_pos (by kernel_rfl)]
              refine wp_store_row 37 (.tmp 10) (.tmp 50) rfl g p.cells rfl rfl _ _ HGX.out (HSH.out _) rfl (H1C.out _) ?_
              obtain ⟨y11, hy11⟩ : ∃ W, W = y10.setRow g p.cells := ⟨_, rfl⟩
              have BY11 : Hid (Below w6.heap.size w6 y11) := Lib.hid (by rw [hy11]; exact setRow_below BY10.out HGW.out _)
              have HGY : Hid (y11.heap[g]? = some (.cells p.cells 37 (0, 0))) := Lib.hid (by rw [hy11]; exact setRow_heap _ _ _ _ _ _ HGX.out)
              have HTQ := Lib.hid (HTP.out.setRowOff HOFP.out p.cells)
              rw [← hy11] at HTQ
              have HTP := HTQ
              rw [← hy11]
              have HGX := HGY
              refine hK.out _ _ (HST.out _ BY11.out) (fun _ => ?_)
              clear hK K' hy11
              (try simp only [Act.put, List.getElem_toArray, List.getElem_cons_succ, List.getElem_cons_zero])
              refine wpAnyH_take (i := 8) (v := .int .i64 28) rfl (by kernel_rfl) (by kernel_rfl) (by kernel_rfl) (fun _ _ _ h => nomatch h.1) (.inl ⟨by kernel_rfl, fun w hw => by clear hw; go_simp⟩) (by assumption) ?_
              (try simp only [Act.put, List.getElem_toArray, List.getElem_cons_succ, List.getElem_cons_zero, List.setIfInBounds_toArray, List.set_cons_zero, List.set_cons_succ])
              refine wpAnyH_done (by kernel_rfl) ?_ _
              exact ⟨rfl, g, p, rfl, Lib.hid ⟨BY11.out, HGW.out, HGX.out, HTP.out⟩⟩
          · intro g7 p7 w7 hR
            have HA7 := Lib.hid ((hR.out.1.block _ (lt_of_block HA6.out)).trans HA6.out)
            have HB7 := Lib.hid ((hR.out.1.block _ (lt_of_block HB6.out)).trans HB6.out)
            have HC7 := Lib.hid ((hR.out.1.block _ (lt_of_block HC6.out)).trans HC6.out)
            have HD7 := Lib.hid ((hR.out.1.block _ (lt_of_block HD6.out)).trans HD6.out)
            have HE7 := Lib.hid ((hR.out.1.block _ (lt_of_block HE6.out)).trans HE6.out)
            have B7 := Lib.hid (B6.out.trans (hR.out.1.mono B6.out.size))
            have HT7 := Lib.hid (HT6.out.below hR.out.1)
            have HPHB7 := Lib.hid (HPHB6.out.below hR.out.1)
            have HPHC7 := Lib.hid (HPHC6.out.below hR.out.1)
            have HPHD7 := Lib.hid (HPHD6.out.below hR.out.1)
            have HPHE7 := Lib.hid (HPHE6.out.below hR.out.1)
            have HF7 := Lib.hid hR.out.2.2.1
            have HPHF7 := Lib.hid hR.out.2.2.2
            clear hR HST
            go_wp2_with fail
            have HST : Hid (∀ X, Below w7.heap.size w7 X → X.rangeAt (w1.heap.size + 1) 0 a.cells.toList) := Lib.hid (fun X hX => range_row0 ((hX.block _ (lt_of_block HA7.out)).trans HA7.out))
            apply region_to2 (R := fun g (p : Hs) W => Hid (Below w7.heap.size w7 W ∧ w7.heap.size ≤ g ∧ W.heap[g]? = some (.cells p.cells 37 (0, 0)) ∧ (HT p (setE (moveE (exL0 0) (exL0 3) (exL0 4) (Ky.mk ⟨#[98]⟩ ⟨#[110, 117, 116]⟩ ⟨#[]⟩ 1) 3 ⟨#[98]⟩) exL0 4 (moveL (exL0 4) (Ky.mk ⟨#[98]⟩ ⟨#[110, 117, 116]⟩ ⟨#[]⟩ 1) 3 ⟨#[98]⟩)) W)))
            · refine wp_region_held_drew (S := (fun w' => w'.rangeAt (w1.heap.size + 1) 0 a.cells.toList)) (by kernel_rfl) (HST.out _ (Below.refl w7.heap.size w7).drew) (fun dd0 => ?_)
              refine wpAnyH_take (i := 0) (v := .agg a.cells) rfl (by kernel_rfl) (by kernel_rfl) (by kernel_rfl) (fun _ _ _ h => nomatch h.1) (yieldsIf_load_mid (by kernel_rfl) 37 (.tmp 1) rfl (w1.heap.size + 1) 0 rfl a.cells.toList _ (fun w h => h) huh rfl (HSHL.out _)) (by assumption) ?_
              (try simp only [Act.put, List.getElem_toArray, List.getElem_cons_zero, List.setIfInBounds_toArray, List.set_cons_zero, List.set_cons_succ])
              refine wpAnyH_ready (rs := [1, 6]) (by kernel_rfl) (by simp) ?_
              refine AllReadyH.cons rfl (fun K' hK => ?_) (AllReadyH.cons rfl (fun K' hK => ?_) AllReadyH.nil)
              ·
                go_simp
                refine (HNU.out w7.drew).mono ?_
                rintro e y1 ⟨rfl, hb1⟩
                have BY1 := Lib.hid ((Below.refl w7.heap.size w7).drew.trans (hb1.mono (Below.refl w7.heap.size w7).drew.size))
                refine hK.out _ _ (HST.out _ BY1.out) (fun _ => ?_)
                clear hK K'
                (try simp only [Act.put, List.getElem_toArray, List.getElem_cons_succ, List.getElem_cons_zero, List.setIfInBounds_toArray, List.set_cons_zero, List.set_cons_succ])
                refine wpAnyH_ready (rs := [2, 6]) (by kernel_rfl) (by simp) ?_
                refine AllReadyH.cons rfl (fun K' hK => ?_) (AllReadyH.cons rfl (fun K' hK => ?_) AllReadyH.nil)
                ·
                  go_simp
                  refine ((HCO.out.move a exL0 ⟨#[98]⟩ ⟨#[110, 117, 116]⟩ ⟨#[]⟩ 1 3 ⟨#[98]⟩ y1 (HT7.out.below BY1.out) HN4.out (HCA.out 4 (by decide))).mono (fun e w' h5 => PutP.hb (i := 4) (L := exL0) (by decide) (moveL_things (Things.one (Qn.fits exQ)) _ _ _) (Nat.le_trans (moveL_len _ _ _ _) (by decide)) (HT7.out.below BY1.out) h5)).mono ?_
                  rintro e y2 ⟨p, rfl, htp, hb2, hzp, hofp⟩
                  have BY2 := Lib.hid (BY1.out.trans (hb2.mono BY1.out.size))
                  rw [E6.out]
                  have HTP := Lib.hid htp
                  have HZP := Lib.hid hzp
                  clear htp hzp hofp
                  refine hK.out _ _ (HST.out _ BY2.out) (fun _ => ?_)
                  clear hK K'
                  (try simp only [Act.put, List.getElem_toArray, List.getElem_cons_succ, List.getElem_cons_zero, List.setIfInBounds_toArray, List.set_cons_zero, List.set_cons_succ])
                  refine wpAnyH_take (i := 3) (v := .tuple #[.agg p.cells, .int .i64 1]) rfl (by kernel_rfl) (by kernel_rfl) (by kernel_rfl) (fun _ _ _ h => nomatch h.1) (.inl ⟨by kernel_rfl, fun w hw => by clear hw; go_simp⟩) (by assumption) ?_
                  (try simp only [Act.put, List.getElem_toArray, List.getElem_cons_succ, List.getElem_cons_zero, List.setIfInBounds_toArray, List.set_cons_zero, List.set_cons_succ])
                  refine wpAnyH_take (i := 4) (v := .agg p.cells) rfl (by kernel_rfl) (by kernel_rfl) (by kernel_rfl) (fun _ _ _ h => nomatch h.1) (.inl ⟨by kernel_rfl, fun w hw => by clear hw; go_simp⟩) (by assumption) ?_
                  (try simp only [Act.put, List.getElem_toArray, List.getElem_cons_succ, List.getElem_cons_zero, List.setIfInBounds_toArray, List.set_cons_zero, List.set_cons_succ])
                  refine wpAnyH_take (i := 5) (v := .int .i64 1) rfl (by kernel_rfl) (by kernel_rfl) (by kernel_rfl) (fun _ _ _ h => nomatch h.1) (.inl ⟨by kernel_rfl, fun w hw => by clear hw; go_simp⟩) (by assumption) ?_
                  (try simp only [Act.put, List.getElem_toArray, List.getElem_cons_succ, List.getElem_cons_zero, List.setIfInBounds_toArray, List.set_cons_zero, List.set_cons_succ])
                  refine wpAnyH_ready (rs := [6]) (by kernel_rfl) (by simp) ?_
                  refine AllReadyH.cons rfl (fun K' hK => ?_) AllReadyH.nil
                  go_simp
                  obtain ⟨y3, hy3⟩ : ∃ W, W = (y2.alloc (.cells #[.slice none 0 0, .slice none 0 0, .slice none 0 0, .slice none 0 0, .slice none 0 0, .slice none 0 0, .slice none 0 0, .slice none 0 0, .slice none 0 0, .slice none 0 0, .slice none 0 0, .slice none 0 0, .slice none 0 0, .slice none 0 0, .int .i64 0] 37)) := ⟨_, rfl⟩
                  obtain ⟨g, hg⟩ : ∃ g, g = y2.heap.size := ⟨_, rfl⟩
                  have HGW : Hid (w7.heap.size ≤ g) := Lib.hid (by rw [hg]; exact BY2.out.size)
                  have hb3 : Below y2.heap.size y2 y3 := by rw [hy3]; exact ((Below.refl _ _).alloc (Nat.le_refl _) _)
                  have BY3 := Lib.hid (BY2.out.trans (hb3.mono BY2.out.size))
                  have HGX : Hid (y3.heap[g]? = some (.cells #[.slice none 0 0, .slice none 0 0, .slice none 0 0, .slice none 0 0, .slice none 0 0, .slice none 0 0, .slice none 0 0, .slice none 0 0, .slice none 0 0, .slice none 0 0, .slice none 0 0, .slice none 0 0, .slice none 0 0, .slice none 0 0, .int .i64 0] 37 (0, 0))) := Lib.hid (by rw [hy3, hg]; exact heap_alloc_new y2 _)
                  have HGE : Hid (g < y3.heap.size) := Lib.hid (lt_of_block HGX.out)
                  rw [← hy3, ← hg]
                  have HOFP := Lib.hid (HTP.out.offge (Nat.le_of_eq hg.symm))
                  have HTP := Lib.hid (HTP.out.below hb3)
                  refine hK.out _ _ (HST.out _ BY3.out) (fun _ => ?_)
                  clear hK K' hy3 hb3 hg
                  (try simp only [Act.put, List.getElem_toArray, List.getElem_cons_succ, List.getElem_cons_zero, List.setIfInBounds_toArray, List.set_cons_zero, List.set_cons_succ])
                  refine wpAnyH_ready (rs := [7]) (by kernel_rfl) (by simp) ?_
                  refine AllReadyH.cons rfl (fun K' hK => ?_) AllReadyH.nil
                  rw [if_pos (by kernel_rfl)]
                  refine wp_store_row 37 (.tmp 12) (.tmp 56) rfl g p.cells rfl rfl _ _ HGX.out (HSH.out _) rfl (H1C.out _) ?_
                  obtain ⟨y4, hy4⟩ : ∃ W, W = y3.setRow g p.cells := ⟨_, rfl⟩
                  have BY4 : Hid (Below w7.heap.size w7 y4) := Lib.hid (by rw [hy4]; exact setRow_below BY3.out HGW.out _)
                  have HGY : Hid (y4.heap[g]? = some (.cells p.cells 37 (0, 0))) := Lib.hid (by rw [hy4]; exact setRow_heap _ _ _ _ _ _ HGX.out)
                  have HTQ := Lib.hid (HTP.out.setRowOff HOFP.out p.cells)
                  rw [← hy4] at HTQ
                  have HTP := HTQ
                  rw [← hy4]
                  have HGX := HGY
                  refine hK.out _ _ (HST.out _ BY4.out) (fun _ => ?_)
                  clear hK K' hy4
                  (try simp only [Act.put, List.getElem_toArray, List.getElem_cons_succ, List.getElem_cons_zero])
                  refine wpAnyH_take (i := 8) (v := .int .i64 1) rfl (by kernel_rfl) (by kernel_rfl) (by kernel_rfl) (fun _ _ _ h => nomatch h.1) (.inl ⟨by kernel_rfl, fun w hw => by clear hw; go_simp⟩) (by assumption) ?_
                  (try simp only [Act.put, List.getElem_toArray, List.getElem_cons_succ, List.getElem_cons_zero, List.setIfInBounds_toArray, List.set_cons_zero, List.set_cons_succ])
                  refine wpAnyH_done (by kernel_rfl) ?_ _
                  exact ⟨rfl, g, p, rfl, Lib.hid ⟨BY4.out, HGW.out, HGX.out, HTP.out⟩⟩
                ·
                  go_simp
                  obtain ⟨y5, hy5⟩ : ∃ W, W = (y1.alloc (.cells #[.slice none 0 0, .slice none 0 0, .slice none 0 0, .slice none 0 0, .slice none 0 0, .slice none 0 0, .slice none 0 0, .slice none 0 0, .slice none 0 0, .slice none 0 0, .slice none 0 0, .slice none 0 0, .slice none 0 0, .slice none 0 0, .int .i64 0] 37)) := ⟨_, rfl⟩
                  obtain ⟨g, hg⟩ : ∃ g, g = y1.heap.size := ⟨_, rfl⟩
                  have HGW : Hid (w7.heap.size ≤ g) := Lib.hid (by rw [hg]; exact BY1.out.size)
                  have hb5 : Below y1.heap.size y1 y5 := by rw [hy5]; exact ((Below.refl _ _).alloc (Nat.le_refl _) _)
                  have BY5 := Lib.hid (BY1.out.trans (hb5.mono BY1.out.size))
                  have HGX : Hid (y5.heap[g]? = some (.cells #[.slice none 0 0, .slice none 0 0, .slice none 0 0, .slice none 0 0, .slice none 0 0, .slice none 0 0, .slice none 0 0, .slice none 0 0, .slice none 0 0, .slice none 0 0, .slice none 0 0, .slice none 0 0, .slice none 0 0, .slice none 0 0, .int .i64 0] 37 (0, 0))) := Lib.hid (by rw [hy5, hg]; exact heap_alloc_new y1 _)
                  have HGE : Hid (g < y5.heap.size) := Lib.hid (lt_of_block HGX.out)
                  rw [← hy5, ← hg]
                  refine hK.out _ _ (HST.out _ BY5.out) (fun _ => ?_)
                  clear hK K' hy5 hb5 hg
                  (try simp only [Act.put, List.getElem_toArray, List.getElem_cons_succ, List.getElem_cons_zero, List.setIfInBounds_toArray, List.set_cons_zero, List.set_cons_succ])
                  refine wpAnyH_ready (rs := [2]) (by kernel_rfl) (by simp) ?_
                  refine AllReadyH.cons rfl (fun K' hK => ?_) AllReadyH.nil
                  go_simp
                  refine ((HCO.out.move a exL0 ⟨#[98]⟩ ⟨#[110, 117, 116]⟩ ⟨#[]⟩ 1 3 ⟨#[98]⟩ y5 (HT7.out.below BY5.out) HN4.out (HCA.out 4 (by decide))).mono (fun e w' h5 => PutP.hb (i := 4) (L := exL0) (by decide) (moveL_things (Things.one (Qn.fits exQ)) _ _ _) (Nat.le_trans (moveL_len _ _ _ _) (by decide)) (HT7.out.below BY5.out) h5)).mono ?_
                  rintro e y6 ⟨p, rfl, htp, hb6, hzp, hofp⟩
                  have BY6 := Lib.hid (BY5.out.trans (hb6.mono BY5.out.size))
                  rw [E6.out]
                  have HGZ := HGX
                  have HGX := Lib.hid ((hb6.block _ (lt_of_block HGX.out)).trans HGX.out)
                  have HTP := Lib.hid htp
                  have HZP := Lib.hid hzp
                  have HOFP := Lib.hid (hofp g (HT7.out.offge HGW.out) (by have := lt_of_block HGZ.out; exact this))
                  clear htp hzp hofp
                  refine hK.out _ _ (HST.out _ BY6.out) (fun _ => ?_)
                  clear hK K'
                  (try simp only [Act.put, List.getElem_toArray, List.getElem_cons_succ, List.getElem_cons_zero, List.setIfInBounds_toArray, List.set_cons_zero, List.set_cons_succ])
                  refine wpAnyH_take (i := 3) (v := .tuple #[.agg p.cells, .int .i64 1]) rfl (by kernel_rfl) (by kernel_rfl) (by kernel_rfl) (fun _ _ _ h => nomatch h.1) (.inl ⟨by kernel_rfl, fun w hw => by clear hw; go_simp⟩) (by assumption) ?_
                  (try simp only [Act.put, List.getElem_toArray, List.getElem_cons_succ, List.getElem_cons_zero, List.setIfInBounds_toArray, List.set_cons_zero, List.set_cons_succ])
                  refine wpAnyH_take (i := 4) (v := .agg p.cells) rfl (by kernel_rfl) (by kernel_rfl) (by kernel_rfl) (fun _ _ _ h => nomatch h.1) (.inl ⟨by kernel_rfl, fun w hw => by clear hw; go_simp⟩) (by assumption) ?_
                  (try simp only [Act.put, List.getElem_toArray, List.getElem_cons_succ, List.getElem_cons_zero, List.setIfInBounds_toArray, List.set_cons_zero, List.set_cons_succ])
                  refine wpAnyH_take (i := 5) (v := .int .i64 1) rfl (by kernel_rfl) (by kernel_rfl) (by kernel_rfl) (fun _ _ _ h => nomatch h.1) (.inl ⟨by kernel_rfl, fun w hw => by clear hw; go_simp⟩) (by assumption) ?_
                  (try simp only [Act.put, List.getElem_toArray, List.getElem_cons_succ, List.getElem_cons_zero, List.setIfInBounds_toArray, List.set_cons_zero, List.set_cons_succ])
                  refine wpAnyH_ready (rs := [7]) (by kernel_rfl) (by simp) ?_
                  refine AllReadyH.cons rfl (fun K' hK => ?_) AllReadyH.nil
                  rw [if_pos (by kernel_rfl)]
                  refine wp_store_row 37 (.tmp 12) (.tmp 56) rfl g p.cells rfl rfl _ _ HGX.out (HSH.out _) rfl (H1C.out _) ?_
                  obtain ⟨y7, hy7⟩ : ∃ W, W = y6.setRow g p.cells := ⟨_, rfl⟩
                  have BY7 : Hid (Below w7.heap.size w7 y7) := Lib.hid (by rw [hy7]; exact setRow_below BY6.out HGW.out _)
                  have HGY : Hid (y7.heap[g]? = some (.cells p.cells 37 (0, 0))) := Lib.hid (by rw [hy7]; exact setRow_heap _ _ _ _ _ _ HGX.out)
                  have HTQ := Lib.hid (HTP.out.setRowOff HOFP.out p.cells)
                  rw [← hy7] at HTQ
                  have HTP := HTQ
                  rw [← hy7]
                  have HGX := HGY
                  refine hK.out _ _ (HST.out _ BY7.out) (fun _ => ?_)
                  clear hK K' hy7
                  (try simp only [Act.put, List.getElem_toArray, List.getElem_cons_succ, List.getElem_cons_zero])
                  refine wpAnyH_take (i := 8) (v := .int .i64 1) rfl (by kernel_rfl) (by kernel_rfl) (by kernel_rfl) (fun _ _ _ h => nomatch h.1) (.inl ⟨by kernel_rfl, fun w hw => by clear hw; go_simp⟩) (by assumption) ?_
                  (try simp only [Act.put, List.getElem_toArray, List.getElem_cons_succ, List.getElem_cons_zero, List.setIfInBounds_toArray, List.set_cons_zero, List.set_cons_succ])
                  refine wpAnyH_done (by kernel_rfl) ?_ _
                  exact ⟨rfl, g, p, rfl, Lib.hid ⟨BY7.out, HGW.out, HGX.out, HTP.out⟩⟩
              ·
                go_simp
                obtain ⟨y8, hy8⟩ : ∃ W, W = (w7.alloc (.cells #[.slice none 0 0, .slice none 0 0, .slice none 0 0, .slice none 0 0, .slice none 0 0, .slice none 0 0, .slice none 0 0, .slice none 0 0, .slice none 0 0, .slice none 0 0, .slice none 0 0, .slice none 0 0, .slice none 0 0, .slice none 0 0, .int .i64 0] 37)).drew := ⟨_, rfl⟩
                obtain ⟨g, hg⟩ : ∃ g, g = w7.heap.size := ⟨_, rfl⟩
                have HGW : Hid (w7.heap.size ≤ g) := Lib.hid (by rw [hg]; exact Nat.le_refl _)
                have hb8 : Below w7.heap.size w7 y8 := by rw [hy8]; exact ((Below.refl _ _).alloc (Nat.le_refl _) _).drew
                have BY8 := Lib.hid (hb8)
                have HGX : Hid (y8.heap[g]? = some (.cells #[.slice none 0 0, .slice none 0 0, .slice none 0 0, .slice none 0 0, .slice none 0 0, .slice none 0 0, .slice none 0 0, .slice none 0 0, .slice none 0 0, .slice none 0 0, .slice none 0 0, .slice none 0 0, .slice none 0 0, .slice none 0 0, .int .i64 0] 37 (0, 0))) := Lib.hid (by rw [hy8, hg]; exact heap_alloc_new w7 _)
                have HGE : Hid (g < y8.heap.size) := Lib.hid (lt_of_block HGX.out)
                rw [← hy8, ← hg]
                refine hK.out _ _ (HST.out _ BY8.out) (fun _ => ?_)
                clear hK K' hy8 hb8 hg
                (try simp only [Act.put, List.getElem_toArray, List.getElem_cons_succ, List.getElem_cons_zero, List.setIfInBounds_toArray, List.set_cons_zero, List.set_cons_succ])
                refine wpAnyH_ready (rs := [1]) (by kernel_rfl) (by simp) ?_
                refine AllReadyH.cons rfl (fun K' hK => ?_) AllReadyH.nil
                go_simp
                refine (HNU.out y8).mono ?_
                rintro e y9 ⟨rfl, hb9⟩
                have BY9 := Lib.hid (BY8.out.trans (hb9.mono BY8.out.size))
                have HGZ := HGX
                have HGX := Lib.hid ((hb9.block _ (lt_of_block HGX.out)).trans HGX.out)
                refine hK.out _ _ (HST.out _ BY9.out) (fun _ => ?_)
                clear hK K'
                (try simp only [Act.put, List.getElem_toArray, List.getElem_cons_succ, List.getElem_cons_zero, List.setIfInBounds_toArray, List.set_cons_zero, List.set_cons_succ])
                refine wpAnyH_ready (rs := [2]) (by kernel_rfl) (by simp) ?_
                refine AllReadyH.cons rfl (fun K' hK => ?_) AllReadyH.nil
                go_simp
                refine ((HCO.out.move a exL0 ⟨#[98]⟩ ⟨#[110, 117, 116]⟩ ⟨#[]⟩ 1 3 ⟨#[98]⟩ y9 (HT7.out.below BY9.out) HN4.out (HCA.out 4 (by decide))).mono (fun e w' h5 => PutP.hb (i := 4) (L := exL0) (by decide) (moveL_things (Things.one (Qn.fits exQ)) _ _ _) (Nat.le_trans (moveL_len _ _ _ _) (by decide)) (HT7.out.below BY9.out) h5)).mono ?_
                rintro e y10 ⟨p, rfl, htp, hb10, hzp, hofp⟩
                have BY10 := Lib.hid (BY9.out.trans (hb10.mono BY9.out.size))
                rw [E6.out]
                have HGZ := HGX
                have HGX := Lib.hid ((hb10.block _ (lt_of_block HGX.out)).trans HGX.out)
                have HTP := Lib.hid htp
                have HZP := Lib.hid hzp
                have HOFP := Lib.hid (hofp g (HT7.out.offge HGW.out) (by have := lt_of_block HGZ.out; exact this))
                clear htp hzp hofp
                refine hK.out _ _ (HST.out _ BY10.out) (fun _ => ?_)
                clear hK K'
                (try simp only [Act.put, List.getElem_toArray, List.getElem_cons_succ, List.getElem_cons_zero, List.setIfInBounds_toArray, List.set_cons_zero, List.set_cons_succ])
                refine wpAnyH_take (i := 3) (v := .tuple #[.agg p.cells, .int .i64 1]) rfl (by kernel_rfl) (by kernel_rfl) (by kernel_rfl) (fun _ _ _ h => nomatch h.1) (.inl ⟨by kernel_rfl, fun w hw => by clear hw; go_simp⟩) (by assumption) ?_
                (try simp only [Act.put, List.getElem_toArray, List.getElem_cons_succ, List.getElem_cons_zero, List.setIfInBounds_toArray, List.set_cons_zero, List.set_cons_succ])
                refine wpAnyH_take (i := 4) (v := .agg p.cells) rfl (by kernel_rfl) (by kernel_rfl) (by kernel_rfl) (fun _ _ _ h => nomatch h.1) (.inl ⟨by kernel_rfl, fun w hw => by clear hw; go_simp⟩) (by assumption) ?_
                (try simp only [Act.put, List.getElem_toArray, List.getElem_cons_succ, List.getElem_cons_zero, List.setIfInBounds_toArray, List.set_cons_zero, List.set_cons_succ])
                refine wpAnyH_take (i := 5) (v := .int .i64 1) rfl (by kernel_rfl) (by kernel_rfl) (by kernel_rfl) (fun _ _ _ h => nomatch h.1) (.inl ⟨by kernel_rfl, fun w hw => by clear hw; go_simp⟩) (by assumption) ?_
                (try simp only [Act.put, List.getElem_toArray, List.getElem_cons_succ, List.getElem_cons_zero, List.setIfInBounds_toArray, List.set_cons_zero, List.set_cons_succ])
                refine wpAnyH_ready (rs := [7]) (by kernel_rfl) (by simp) ?_
                refine AllReadyH.cons rfl (fun K' hK => ?_) AllReadyH.nil
                rw [if_pos (by kernel_rfl)]
                refine wp_store_row 37 (.tmp 12) (.tmp 56) rfl g p.cells rfl rfl _ _ HGX.out (HSH.out _) rfl (H1C.out _) ?_
                obtain ⟨y11, hy11⟩ : ∃ W, W = y10.setRow g p.cells := ⟨_, rfl⟩
                have BY11 : Hid (Below w7.heap.size w7 y11) := Lib.hid (by rw [hy11]; exact setRow_below BY10.out HGW.out _)
                have HGY : Hid (y11.heap[g]? = some (.cells p.cells 37 (0, 0))) := Lib.hid (by rw [hy11]; exact setRow_heap _ _ _ _ _ _ HGX.out)
                have HTQ := Lib.hid (HTP.out.setRowOff HOFP.out p.cells)
                rw [← hy11] at HTQ
                have HTP := HTQ
                rw [← hy11]
                have HGX := HGY
                refine hK.out _ _ (HST.out _ BY11.out) (fun _ => ?_)
                clear hK K' hy11
                (try simp only [Act.put, List.getElem_toArray, List.getElem_cons_succ, List.getElem_cons_zero])
                refine wpAnyH_take (i := 8) (v := .int .i64 1) rfl (by kernel_rfl) (by kernel_rfl) (by kernel_rfl) (fun _ _ _ h => nomatch h.1) (.inl ⟨by kernel_rfl, fun w hw => by clear hw; go_simp⟩) (by assumption) ?_
                (try simp only [Act.put, List.getElem_toArray, List.getElem_cons_succ, List.getElem_cons_zero, List.setIfInBounds_toArray, List.set_cons_zero, List.set_cons_succ])
                refine wpAnyH_done (by kernel_rfl) ?_ _
                exact ⟨rfl, g, p, rfl, Lib.hid ⟨BY11.out, HGW.out, HGX.out, HTP.out⟩⟩
            · intro g8 p8 w8 hR
              have HA8 := Lib.hid ((hR.out.1.block _ (lt_of_block HA7.out)).trans HA7.out)
              have HB8 := Lib.hid ((hR.out.1.block _ (lt_of_block HB7.out)).trans HB7.out)
              have HC8 := Lib.hid ((hR.out.1.block _ (lt_of_block HC7.out)).trans HC7.out)
              have HD8 := Lib.hid ((hR.out.1.block _ (lt_of_block HD7.out)).trans HD7.out)
              have HE8 := Lib.hid ((hR.out.1.block _ (lt_of_block HE7.out)).trans HE7.out)
              have HF8 := Lib.hid ((hR.out.1.block _ (lt_of_block HF7.out)).trans HF7.out)
              have B8 := Lib.hid (B7.out.trans (hR.out.1.mono B7.out.size))
              have HT8 := Lib.hid (HT7.out.below hR.out.1)
              have HPHB8 := Lib.hid (HPHB7.out.below hR.out.1)
              have HPHC8 := Lib.hid (HPHC7.out.below hR.out.1)
              have HPHD8 := Lib.hid (HPHD7.out.below hR.out.1)
              have HPHE8 := Lib.hid (HPHE7.out.below hR.out.1)
              have HPHF8 := Lib.hid (HPHF7.out.below hR.out.1)
              have HI8 := Lib.hid hR.out.2.2.1
              have HPHI8 := Lib.hid hR.out.2.2.2
              clear hR HST
              have E7 : Hid (gotQ ((setE (takeE (exL0 4) (Ky.mk ⟨#[98]⟩ ⟨#[110, 117, 116]⟩ ⟨#[]⟩ 1) 3) exL0 4 (takeL (exL0 4) (Ky.mk ⟨#[98]⟩ ⟨#[110, 117, 116]⟩ ⟨#[]⟩ 1) 3)) 4) (Ky.mk ⟨#[98]⟩ ⟨#[110, 117, 116]⟩ ⟨#[]⟩ 1) = [.string ⟨#[98]⟩, .string ⟨#[110, 117, 116]⟩, .string ⟨#[]⟩, .int .i64 1, .int .i64 2, .int .i64 2] ∧ (atQ ((setE (takeE (exL0 4) (Ky.mk ⟨#[98]⟩ ⟨#[110, 117, 116]⟩ ⟨#[]⟩ 1) 3) exL0 4 (takeL (exL0 4) (Ky.mk ⟨#[98]⟩ ⟨#[110, 117, 116]⟩ ⟨#[]⟩ 1) 3)) 4) (Ky.mk ⟨#[98]⟩ ⟨#[110, 117, 116]⟩ ⟨#[]⟩ 1)).isSome = true) := Lib.hid ⟨by kernel_rfl, by decide +kernel⟩
              have E8 : Hid (totQ ((setE (takeE (exL0 4) (Ky.mk ⟨#[98]⟩ ⟨#[110, 117, 116]⟩ ⟨#[]⟩ 1) 3) exL0 4 (takeL (exL0 4) (Ky.mk ⟨#[98]⟩ ⟨#[110, 117, 116]⟩ ⟨#[]⟩ 1) 3)) 4) ⟨#[110, 117, 116]⟩ ⟨#[]⟩ = 2) := Lib.hid (by decide +kernel)
              have CFD : Hid (∀ W, HT p5 (setE (takeE (exL0 4) (Ky.mk ⟨#[98]⟩ ⟨#[110, 117, 116]⟩ ⟨#[]⟩ 1) 3) exL0 4 (takeL (exL0 4) (Ky.mk ⟨#[98]⟩ ⟨#[110, 117, 116]⟩ ⟨#[]⟩ 1) 3)) W → Calls Tryz.prog 17 #[.agg p5.cells, .agg #[.string ⟨#[98]⟩, .string ⟨#[110, 117, 116]⟩, .string ⟨#[]⟩, .int .i64 1]] W fun e w' => e = .returned (.tuple #[.agg #[.string ⟨#[98]⟩, .string ⟨#[110, 117, 116]⟩, .string ⟨#[]⟩, .int .i64 1, .int .i64 2, .int .i64 2], .bool true]) ∧ Below W.heap.size W w') := Lib.hid (fun W hW => by have := HCO.out.find p5 (setE (takeE (exL0 4) (Ky.mk ⟨#[98]⟩ ⟨#[110, 117, 116]⟩ ⟨#[]⟩ 1) 3) exL0 4 (takeL (exL0 4) (Ky.mk ⟨#[98]⟩ ⟨#[110, 117, 116]⟩ ⟨#[]⟩ 1) 3)) ⟨#[98]⟩ ⟨#[110, 117, 116]⟩ ⟨#[]⟩ 1 W hW; rw [E7.out.1, E7.out.2] at this; exact this)
              have CTO : Hid (∀ W, HT p5 (setE (takeE (exL0 4) (Ky.mk ⟨#[98]⟩ ⟨#[110, 117, 116]⟩ ⟨#[]⟩ 1) 3) exL0 4 (takeL (exL0 4) (Ky.mk ⟨#[98]⟩ ⟨#[110, 117, 116]⟩ ⟨#[]⟩ 1) 3)) W → Calls Tryz.prog 18 #[.agg p5.cells, .string ⟨#[110, 117, 116]⟩, .string ⟨#[]⟩] W fun e w' => e = .returned (.int .i64 2) ∧ Below W.heap.size W w') := Lib.hid (fun W hW => by have := HCO.out.total p5 (setE (takeE (exL0 4) (Ky.mk ⟨#[98]⟩ ⟨#[110, 117, 116]⟩ ⟨#[]⟩ 1) 3) exL0 4 (takeL (exL0 4) (Ky.mk ⟨#[98]⟩ ⟨#[110, 117, 116]⟩ ⟨#[]⟩ 1) 3)) ⟨#[110, 117, 116]⟩ ⟨#[]⟩ W hW; rwa [E8.out] at this)
              have HSROW : Hid ((Tryz.prog.info? 55).map (·.size) = some (#[.string ⟨#[98]⟩, .string ⟨#[110, 117, 116]⟩, .string ⟨#[]⟩, .int .i64 1, .int .i64 2, .int .i64 2] : Array Value).size) := Lib.hid (by kernel_rfl)
              have HOROW : Hid ((#[.string ⟨#[98]⟩, .string ⟨#[110, 117, 116]⟩, .string ⟨#[]⟩, .int .i64 1, .int .i64 2, .int .i64 2] : Array Value).all (·.oneCell') = true) := Lib.hid (by simp [Value.oneCell'])
              go_wp2_with fail
              have HST : Hid (∀ X, Below w8.heap.size w8 X → X.rangeAt g5 0 p5.cells.toList) := Lib.hid (fun X hX => range_row0 ((hX.block _ (lt_of_block HD8.out)).trans HD8.out))
              apply region_to1 (R := fun g W => Hid (Below w8.heap.size w8 W ∧ w8.heap.size ≤ g ∧ W.heap[g]? = some (.cells #[.string ⟨#[98]⟩, .string ⟨#[110, 117, 116]⟩, .string ⟨#[]⟩, .int .i64 1, .int .i64 2, .int .i64 2] 55 (0, 0)) ∧ (True)))
              · refine wp_region_held_drew (S := (fun w' => w'.rangeAt g5 0 p5.cells.toList)) (by kernel_rfl) (HST.out _ (Below.refl w8.heap.size w8).drew) (fun dd0 => ?_)
                refine wpAnyH_take (i := 0) (v := .agg p5.cells) rfl (by kernel_rfl) (by kernel_rfl) (by kernel_rfl) (fun _ _ _ h => nomatch h.1) (yieldsIf_load_mid (by kernel_rfl) 37 (.tmp 6) rfl g5 0 rfl p5.cells.toList _ (fun w h => h) huh rfl (HSHL.out _)) (by assumption) ?_
                (try simp only [Act.put, List.getElem_toArray, List.getElem_cons_zero, List.setIfInBounds_toArray, List.set_cons_zero, List.set_cons_succ])
                refine wpAnyH_ready (rs := [1, 6]) (by kernel_rfl) (by simp) ?_
                refine AllReadyH.cons rfl (fun K' hK => ?_) (AllReadyH.cons rfl (fun K' hK => ?_) AllReadyH.nil)
                ·
                  go_simp
                  refine (HNU.out w8.drew).mono ?_
                  rintro e y1 ⟨rfl, hb1⟩
                  have BY1 := Lib.hid ((Below.refl w8.heap.size w8).drew.trans (hb1.mono (Below.refl w8.heap.size w8).drew.size))
                  refine hK.out _ _ (HST.out _ BY1.out) (fun _ => ?_)
                  clear hK K'
                  (try simp only [Act.put, List.getElem_toArray, List.getElem_cons_succ, List.getElem_cons_zero, List.setIfInBounds_toArray, List.set_cons_zero, List.set_cons_succ])
                  refine wpAnyH_ready (rs := [2, 6]) (by kernel_rfl) (by simp) ?_
                  refine AllReadyH.cons rfl (fun K' hK => ?_) (AllReadyH.cons rfl (fun K' hK => ?_) AllReadyH.nil)
                  ·
                    go_simp
                    refine (CFD.out y1 (HPHD8.out.below BY1.out)).mono ?_
                    rintro e y2 ⟨rfl, hb2⟩
                    have BY2 := Lib.hid (BY1.out.trans (hb2.mono BY1.out.size))
                    refine hK.out _ _ (HST.out _ BY2.out) (fun _ => ?_)
                    clear hK K'
                    (try simp only [Act.put, List.getElem_toArray, List.getElem_cons_succ, List.getElem_cons_zero, List.setIfInBounds_toArray, List.set_cons_zero, List.set_cons_succ])
                    refine wpAnyH_take (i := 3) (v := .tuple #[.agg #[.string ⟨#[98]⟩, .string ⟨#[110, 117, 116]⟩, .string ⟨#[]⟩, .int .i64 1, .int .i64 2, .int .i64 2], .bool true]) rfl (by kernel_rfl) (by kernel_rfl) (by kernel_rfl) (fun _ _ _ h => nomatch h.1) (.inl ⟨by kernel_rfl, fun w hw => by clear hw; go_simp⟩) (by assumption) ?_
                    (try simp only [Act.put, List.getElem_toArray, List.getElem_cons_succ, List.getElem_cons_zero, List.setIfInBounds_toArray, List.set_cons_zero, List.set_cons_succ])
                    refine wpAnyH_take (i := 4) (v := .agg #[.string ⟨#[98]⟩, .string ⟨#[110, 117, 116]⟩, .string ⟨#[]⟩, .int .i64 1, .int .i64 2, .int .i64 2]) rfl (by kernel_rfl) (by kernel_rfl) (by kernel_rfl) (fun _ _ _ h => nomatch h.1) (.inl ⟨by kernel_rfl, fun w hw => by clear hw; go_simp⟩) (by assumption) ?_
                    (try simp only [Act.put, List.getElem_toArray, List.getElem_cons_succ, List.getElem_cons_zero, List.setIfInBounds_toArray, List.set_cons_zero, List.set_cons_succ])
                    refine wpAnyH_take (i := 5) (v := .bool true) rfl (by kernel_rfl) (by kernel_rfl) (by kernel_rfl) (fun _ _ _ h => nomatch h.1) (.inl ⟨by kernel_rfl, fun w hw => by clear hw; go_simp⟩) (by assumption) ?_
                    (try simp only [Act.put, List.getElem_toArray, List.getElem_cons_succ, List.getElem_cons_zero, List.setIfInBounds_toArray, List.set_cons_zero, List.set_cons_succ])
                    refine wpAnyH_ready (rs := [6]) (by kernel_rfl) (by simp) ?_
                    refine AllReadyH.cons rfl (fun K' hK => ?_) AllReadyH.nil
                    go_simp
                    obtain ⟨y3, hy3⟩ : ∃ W, W = (y2.alloc (.cells #[.string ⟨#[]⟩, .string ⟨#[]⟩, .string ⟨#[]⟩, .int .i64 0, .int .i64 0, .int .i64 0] 55)) := ⟨_, rfl⟩
                    obtain ⟨g, hg⟩ : ∃ g, g = y2.heap.size := ⟨_, rfl⟩
                    have HGW : Hid (w8.heap.size ≤ g) := Lib.hid (by rw [hg]; exact BY2.out.size)
                    have hb3 : Below y2.heap.size y2 y3 := by rw [hy3]; exact ((Below.refl _ _).alloc (Nat.le_refl _) _)
                    have BY3 := Lib.hid (BY2.out.trans (hb3.mono BY2.out.size))
                    have HGX : Hid (y3.heap[g]? = some (.cells #[.string ⟨#[]⟩, .string ⟨#[]⟩, .string ⟨#[]⟩, .int .i64 0, .int .i64 0, .int .i64 0] 55 (0, 0))) := Lib.hid (by rw [hy3, hg]; exact heap_alloc_new y2 _)
                    have HGE : Hid (g < y3.heap.size) := Lib.hid (lt_of_block HGX.out)
                    rw [← hy3, ← hg]
                    refine hK.out _ _ (HST.out _ BY3.out) (fun _ => ?_)
                    clear hK K' hy3 hb3 hg
                    (try simp only [Act.put, List.getElem_toArray, List.getElem_cons_succ, List.getElem_cons_zero, List.setIfInBounds_toArray, List.set_cons_zero, List.set_cons_succ])
                    refine wpAnyH_ready (rs := [7]) (by kernel_rfl) (by simp) ?_
                    refine AllReadyH.cons rfl (fun K' hK => ?_) AllReadyH.nil
                    rw [if_pos (by kernel_rfl)]
                    refine wp_store_row 55 (.tmp 14) (.tmp 62) rfl g #[.string ⟨#[98]⟩, .string ⟨#[110, 117, 116]⟩, .string ⟨#[]⟩, .int .i64 1, .int .i64 2, .int .i64 2] rfl rfl _ _ HGX.out HSROW.out rfl HOROW.out ?_
                    obtain ⟨y4, hy4⟩ : ∃ W, W = y3.setRow g #[.string ⟨#[98]⟩, .string ⟨#[110, 117, 116]⟩, .string ⟨#[]⟩, .int .i64 1, .int .i64 2, .int .i64 2] := ⟨_, rfl⟩
                    have BY4 : Hid (Below w8.heap.size w8 y4) := Lib.hid (by rw [hy4]; exact setRow_below BY3.out HGW.out _)
                    have HGY : Hid (y4.heap[g]? = some (.cells #[.string ⟨#[98]⟩, .string ⟨#[110, 117, 116]⟩, .string ⟨#[]⟩, .int .i64 1, .int .i64 2, .int .i64 2] 55 (0, 0))) := Lib.hid (by rw [hy4]; exact setRow_heap _ _ _ _ _ _ HGX.out)
                    rw [← hy4]
                    have HGX := HGY
                    refine hK.out _ _ (HST.out _ BY4.out) (fun _ => ?_)
                    clear hK K' hy4
                    (try simp only [Act.put, List.getElem_toArray, List.getElem_cons_succ, List.getElem_cons_zero])
                    refine wpAnyH_take (i := 8) (v := .bool true) rfl (by kernel_rfl) (by kernel_rfl) (by kernel_rfl) (fun _ _ _ h => nomatch h.1) (.inl ⟨by kernel_rfl, fun w hw => by clear hw; go_simp⟩) (by assumption) ?_
                    (try simp only [Act.put, List.getElem_toArray, List.getElem_cons_succ, List.getElem_cons_zero, List.setIfInBounds_toArray, List.set_cons_zero, List.set_cons_succ])
                    refine wpAnyH_done (by kernel_rfl) ?_ _
                    exact ⟨rfl, g, rfl, Lib.hid ⟨BY4.out, HGW.out, HGX.out, trivial⟩⟩
                  ·
                    go_simp
                    obtain ⟨y5, hy5⟩ : ∃ W, W = (y1.alloc (.cells #[.string ⟨#[]⟩, .string ⟨#[]⟩, .string ⟨#[]⟩, .int .i64 0, .int .i64 0, .int .i64 0] 55)) := ⟨_, rfl⟩
                    obtain ⟨g, hg⟩ : ∃ g, g = y1.heap.size := ⟨_, rfl⟩
                    have HGW : Hid (w8.heap.size ≤ g) := Lib.hid (by rw [hg]; exact BY1.out.size)
                    have hb5 : Below y1.heap.size y1 y5 := by rw [hy5]; exact ((Below.refl _ _).alloc (Nat.le_refl _) _)
                    have BY5 := Lib.hid (BY1.out.trans (hb5.mono BY1.out.size))
                    have HGX : Hid (y5.heap[g]? = some (.cells #[.string ⟨#[]⟩, .string ⟨#[]⟩, .string ⟨#[]⟩, .int .i64 0, .int .i64 0, .int .i64 0] 55 (0, 0))) := Lib.hid (by rw [hy5, hg]; exact heap_alloc_new y1 _)
                    have HGE : Hid (g < y5.heap.size) := Lib.hid (lt_of_block HGX.out)
                    rw [← hy5, ← hg]
                    refine hK.out _ _ (HST.out _ BY5.out) (fun _ => ?_)
                    clear hK K' hy5 hb5 hg
                    (try simp only [Act.put, List.getElem_toArray, List.getElem_cons_succ, List.getElem_cons_zero, List.setIfInBounds_toArray, List.set_cons_zero, List.set_cons_succ])
                    refine wpAnyH_ready (rs := [2]) (by kernel_rfl) (by simp) ?_
                    refine AllReadyH.cons rfl (fun K' hK => ?_) AllReadyH.nil
                    go_simp
                    refine (CFD.out y5 (HPHD8.out.below BY5.out)).mono ?_
                    rintro e y6 ⟨rfl, hb6⟩
                    have BY6 := Lib.hid (BY5.out.trans (hb6.mono BY5.out.size))
                    have HGZ := HGX
                    have HGX := Lib.hid ((hb6.block _ (lt_of_block HGX.out)).trans HGX.out)
                    refine hK.out _ _ (HST.out _ BY6.out) (fun _ => ?_)
                    clear hK K'
                    (try simp only [Act.put, List.getElem_toArray, List.getElem_cons_succ, List.getElem_cons_zero, List.setIfInBounds_toArray, List.set_cons_zero, List.set_cons_succ])
                    refine wpAnyH_take (i := 3) (v := .tuple #[.agg #[.string ⟨#[98]⟩, .string ⟨#[110, 117, 116]⟩, .string ⟨#[]⟩, .int .i64 1, .int .i64 2, .int .i64 2], .bool true]) rfl (by kernel_rfl) (by kernel_rfl) (by kernel_rfl) (fun _ _ _ h => nomatch h.1) (.inl ⟨by kernel_rfl, fun w hw => by clear hw; go_simp⟩) (by assumption) ?_
                    (try simp only [Act.put, List.getElem_toArray, List.getElem_cons_succ, List.getElem_cons_zero, List.setIfInBounds_toArray, List.set_cons_zero, List.set_cons_succ])
                    refine wpAnyH_take (i := 4) (v := .agg #[.string ⟨#[98]⟩, .string ⟨#[110, 117, 116]⟩, .string ⟨#[]⟩, .int .i64 1, .int .i64 2, .int .i64 2]) rfl (by kernel_rfl) (by kernel_rfl) (by kernel_rfl) (fun _ _ _ h => nomatch h.1) (.inl ⟨by kernel_rfl, fun w hw => by clear hw; go_simp⟩) (by assumption) ?_
                    (try simp only [Act.put, List.getElem_toArray, List.getElem_cons_succ, List.getElem_cons_zero, List.setIfInBounds_toArray, List.set_cons_zero, List.set_cons_succ])
                    refine wpAnyH_take (i := 5) (v := .bool true) rfl (by kernel_rfl) (by kernel_rfl) (by kernel_rfl) (fun _ _ _ h => nomatch h.1) (.inl ⟨by kernel_rfl, fun w hw => by clear hw; go_simp⟩) (by assumption) ?_
                    (try simp only [Act.put, List.getElem_toArray, List.getElem_cons_succ, List.getElem_cons_zero, List.setIfInBounds_toArray, List.set_cons_zero, List.set_cons_succ])
                    refine wpAnyH_ready (rs := [7]) (by kernel_rfl) (by simp) ?_
                    refine AllReadyH.cons rfl (fun K' hK => ?_) AllReadyH.nil
                    rw [if_pos (by kernel_rfl)]
                    refine wp_store_row 55 (.tmp 14) (.tmp 62) rfl g #[.string ⟨#[98]⟩, .string ⟨#[110, 117, 116]⟩, .string ⟨#[]⟩, .int .i64 1, .int .i64 2, .int .i64 2] rfl rfl _ _ HGX.out HSROW.out rfl HOROW.out ?_
                    obtain ⟨y7, hy7⟩ : ∃ W, W = y6.setRow g #[.string ⟨#[98]⟩, .string ⟨#[110, 117, 116]⟩, .string ⟨#[]⟩, .int .i64 1, .int .i64 2, .int .i64 2] := ⟨_, rfl⟩
                    have BY7 : Hid (Below w8.heap.size w8 y7) := Lib.hid (by rw [hy7]; exact setRow_below BY6.out HGW.out _)
                    have HGY : Hid (y7.heap[g]? = some (.cells #[.string ⟨#[98]⟩, .string ⟨#[110, 117, 116]⟩, .string ⟨#[]⟩, .int .i64 1, .int .i64 2, .int .i64 2] 55 (0, 0))) := Lib.hid (by rw [hy7]; exact setRow_heap _ _ _ _ _ _ HGX.out)
                    rw [← hy7]
                    have HGX := HGY
                    refine hK.out _ _ (HST.out _ BY7.out) (fun _ => ?_)
                    clear hK K' hy7
                    (try simp only [Act.put, List.getElem_toArray, List.getElem_cons_succ, List.getElem_cons_zero])
                    refine wpAnyH_take (i := 8) (v := .bool true) rfl (by kernel_rfl) (by kernel_rfl) (by kernel_rfl) (fun _ _ _ h => nomatch h.1) (.inl ⟨by kernel_rfl, fun w hw => by clear hw; go_simp⟩) (by assumption) ?_
                    (try simp only [Act.put, List.getElem_toArray, List.getElem_cons_succ, List.getElem_cons_zero, List.setIfInBounds_toArray, List.set_cons_zero, List.set_cons_succ])
                    refine wpAnyH_done (by kernel_rfl) ?_ _
                    exact ⟨rfl, g, rfl, Lib.hid ⟨BY7.out, HGW.out, HGX.out, trivial⟩⟩
                ·
                  go_simp
                  obtain ⟨y8, hy8⟩ : ∃ W, W = (w8.alloc (.cells #[.string ⟨#[]⟩, .string ⟨#[]⟩, .string ⟨#[]⟩, .int .i64 0, .int .i64 0, .int .i64 0] 55)).drew := ⟨_, rfl⟩
                  obtain ⟨g, hg⟩ : ∃ g, g = w8.heap.size := ⟨_, rfl⟩
                  have HGW : Hid (w8.heap.size ≤ g) := Lib.hid (by rw [hg]; exact Nat.le_refl _)
                  have hb8 : Below w8.heap.size w8 y8 := by rw [hy8]; exact ((Below.refl _ _).alloc (Nat.le_refl _) _).drew
                  have BY8 := Lib.hid (hb8)
                  have HGX : Hid (y8.heap[g]? = some (.cells #[.string ⟨#[]⟩, .string ⟨#[]⟩, .string ⟨#[]⟩, .int .i64 0, .int .i64 0, .int .i64 0] 55 (0, 0))) := Lib.hid (by rw [hy8, hg]; exact heap_alloc_new w8 _)
                  have HGE : Hid (g < y8.heap.size) := Lib.hid (lt_of_block HGX.out)
                  rw [← hy8, ← hg]
                  refine hK.out _ _ (HST.out _ BY8.out) (fun _ => ?_)
                  clear hK K' hy8 hb8 hg
                  (try simp only [Act.put, List.getElem_toArray, List.getElem_cons_succ, List.getElem_cons_zero, List.setIfInBounds_toArray, List.set_cons_zero, List.set_cons_succ])
                  refine wpAnyH_ready (rs := [1]) (by kernel_rfl) (by simp) ?_
                  refine AllReadyH.cons rfl (fun K' hK => ?_) AllReadyH.nil
                  go_simp
                  refine (HNU.out y8).mono ?_
                  rintro e y9 ⟨rfl, hb9⟩
                  have BY9 := Lib.hid (BY8.out.trans (hb9.mono BY8.out.size))
                  have HGZ := HGX
                  have HGX := Lib.hid ((hb9.block _ (lt_of_block HGX.out)).trans HGX.out)
                  refine hK.out _ _ (HST.out _ BY9.out) (fun _ => ?_)
                  clear hK K'
                  (try simp only [Act.put, List.getElem_toArray, List.getElem_cons_succ, List.getElem_cons_zero, List.setIfInBounds_toArray, List.set_cons_zero, List.set_cons_succ])
                  refine wpAnyH_ready (rs := [2]) (by kernel_rfl) (by simp) ?_
                  refine AllReadyH.cons rfl (fun K' hK => ?_) AllReadyH.nil
                  go_simp
                  refine (CFD.out y9 (HPHD8.out.below BY9.out)).mono ?_
                  rintro e y10 ⟨rfl, hb10⟩
                  have BY10 := Lib.hid (BY9.out.trans (hb10.mono BY9.out.size))
                  have HGZ := HGX
                  have HGX := Lib.hid ((hb10.block _ (lt_of_block HGX.out)).trans HGX.out)
                  refine hK.out _ _ (HST.out _ BY10.out) (fun _ => ?_)
                  clear hK K'
                  (try simp only [Act.put, List.getElem_toArray, List.getElem_cons_succ, List.getElem_cons_zero, List.setIfInBounds_toArray, List.set_cons_zero, List.set_cons_succ])
                  refine wpAnyH_take (i := 3) (v := .tuple #[.agg #[.string ⟨#[98]⟩, .string ⟨#[110, 117, 116]⟩, .string ⟨#[]⟩, .int .i64 1, .int .i64 2, .int .i64 2], .bool true]) rfl (by kernel_rfl) (by kernel_rfl) (by kernel_rfl) (fun _ _ _ h => nomatch h.1) (.inl ⟨by kernel_rfl, fun w hw => by clear hw; go_simp⟩) (by assumption) ?_
                  (try simp only [Act.put, List.getElem_toArray, List.getElem_cons_succ, List.getElem_cons_zero, List.setIfInBounds_toArray, List.set_cons_zero, List.set_cons_succ])
                  refine wpAnyH_take (i := 4) (v := .agg #[.string ⟨#[98]⟩, .string ⟨#[110, 117, 116]⟩, .string ⟨#[]⟩, .int .i64 1, .int .i64 2, .int .i64 2]) rfl (by kernel_rfl) (by kernel_rfl) (by kernel_rfl) (fun _ _ _ h => nomatch h.1) (.inl ⟨by kernel_rfl, fun w hw => by clear hw; go_simp⟩) (by assumption) ?_
                  (try simp only [Act.put, List.getElem_toArray, List.getElem_cons_succ, List.getElem_cons_zero, List.setIfInBounds_toArray, List.set_cons_zero, List.set_cons_succ])
                  refine wpAnyH_take (i := 5) (v := .bool true) rfl (by kernel_rfl) (by kernel_rfl) (by kernel_rfl) (fun _ _ _ h => nomatch h.1) (.inl ⟨by kernel_rfl, fun w hw => by clear hw; go_simp⟩) (by assumption) ?_
                  (try simp only [Act.put, List.getElem_toArray, List.getElem_cons_succ, List.getElem_cons_zero, List.setIfInBounds_toArray, List.set_cons_zero, List.set_cons_succ])
                  refine wpAnyH_ready (rs := [7]) (by kernel_rfl) (by simp) ?_
                  refine AllReadyH.cons rfl (fun K' hK => ?_) AllReadyH.nil
                  rw [if_pos (by kernel_rfl)]
                  refine wp_store_row 55 (.tmp 14) (.tmp 62) rfl g #[.string ⟨#[98]⟩, .string ⟨#[110, 117, 116]⟩, .string ⟨#[]⟩, .int .i64 1, .int .i64 2, .int .i64 2] rfl rfl _ _ HGX.out HSROW.out rfl HOROW.out ?_
                  obtain ⟨y11, hy11⟩ : ∃ W, W = y10.setRow g #[.string ⟨#[98]⟩, .string ⟨#[110, 117, 116]⟩, .string ⟨#[]⟩, .int .i64 1, .int .i64 2, .int .i64 2] := ⟨_, rfl⟩
                  have BY11 : Hid (Below w8.heap.size w8 y11) := Lib.hid (by rw [hy11]; exact setRow_below BY10.out HGW.out _)
                  have HGY : Hid (y11.heap[g]? = some (.cells #[.string ⟨#[98]⟩, .string ⟨#[110, 117, 116]⟩, .string ⟨#[]⟩, .int .i64 1, .int .i64 2, .int .i64 2] 55 (0, 0))) := Lib.hid (by rw [hy11]; exact setRow_heap _ _ _ _ _ _ HGX.out)
                  rw [← hy11]
                  have HGX := HGY
                  refine hK.out _ _ (HST.out _ BY11.out) (fun _ => ?_)
                  clear hK K' hy11
                  (try simp only [Act.put, List.getElem_toArray, List.getElem_cons_succ, List.getElem_cons_zero])
                  refine wpAnyH_take (i := 8) (v := .bool true) rfl (by kernel_rfl) (by kernel_rfl) (by kernel_rfl) (fun _ _ _ h => nomatch h.1) (.inl ⟨by kernel_rfl, fun w hw => by clear hw; go_simp⟩) (by assumption) ?_
                  (try simp only [Act.put, List.getElem_toArray, List.getElem_cons_succ, List.getElem_cons_zero, List.setIfInBounds_toArray, List.set_cons_zero, List.set_cons_succ])
                  refine wpAnyH_done (by kernel_rfl) ?_ _
                  exact ⟨rfl, g, rfl, Lib.hid ⟨BY11.out, HGW.out, HGX.out, trivial⟩⟩
              · intro g9 w9 hR
                have HA9 := Lib.hid ((hR.out.1.block _ (lt_of_block HA8.out)).trans HA8.out)
                have HB9 := Lib.hid ((hR.out.1.block _ (lt_of_block HB8.out)).trans HB8.out)
                have HC9 := Lib.hid ((hR.out.1.block _ (lt_of_block HC8.out)).trans HC8.out)
                have HD9 := Lib.hid ((hR.out.1.block _ (lt_of_block HD8.out)).trans HD8.out)
                have HE9 := Lib.hid ((hR.out.1.block _ (lt_of_block HE8.out)).trans HE8.out)
                have HF9 := Lib.hid ((hR.out.1.block _ (lt_of_block HF8.out)).trans HF8.out)
                have HI9 := Lib.hid ((hR.out.1.block _ (lt_of_block HI8.out)).trans HI8.out)
                have B9 := Lib.hid (B8.out.trans (hR.out.1.mono B8.out.size))
                have HT9 := Lib.hid (HT8.out.below hR.out.1)
                have HPHB9 := Lib.hid (HPHB8.out.below hR.out.1)
                have HPHC9 := Lib.hid (HPHC8.out.below hR.out.1)
                have HPHD9 := Lib.hid (HPHD8.out.below hR.out.1)
                have HPHE9 := Lib.hid (HPHE8.out.below hR.out.1)
                have HPHF9 := Lib.hid (HPHF8.out.below hR.out.1)
                have HPHI9 := Lib.hid (HPHI8.out.below hR.out.1)
                have HQ9 := Lib.hid hR.out.2.2.1
                clear hR HST
                have x4 : w9.cell? ⟨g9, 4, none⟩ = some (.int .i64 2) := by rw [cell_of_block HQ9.out]; rfl
                have x5 : w9.cell? ⟨g9, 5, none⟩ = some (.int .i64 2) := by rw [cell_of_block HQ9.out]; rfl
                have xlt : g9 < w9.heap.size := lt_of_block HQ9.out
                go_wp2_with (first
                  | (refine BigFrame.wpList_want (by kernel_rfl) (fun K hK => Go.wp_load_mid 37 (.tmp 6) rfl g5 0 rfl p5.cells.toList _ (range_row0 HD9.out) huh rfl (HSHL.out _) (hK _ _ ?_)); clear hK K)
                  | fail)
                refine (CTO.out _ HPHD9.out).mono ?_
                rintro e wn ⟨rfl, hbn⟩
                have BN := Lib.hid (B9.out.trans (hbn.mono B9.out.size))
                clear hbn x4 x5 xlt
                go_wp2_with fail
                go_ret
                exact ⟨rfl, BN.out⟩
end Go.Proofs.YtjacodbmmhnopaaGreat
