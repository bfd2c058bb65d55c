/-
  THE SHAPE of the contracts of layout's AddZone, AddBin, Find, Site, Freeze (Cons); the examples of the chapter over it. (By wip/tools/gen_con10.py.)
-/
import Derived.Test.YtejlpmjgdaippaaYRef
import Derived.Test.YtejlpmjgdaippaaHKept
import Derived.Test.YtejlpmjgdaippaaHBoth
namespace Go.Proofs.Ytejlpmjgdaippaa
set_option linter.unusedVariables false
open Go.RowKit
open Pl (firstG findG putG)

/-- What layout's functions answer. -/
structure Cons : Prop where
  addz : ∀ (h : Hs) (L : Nat → List (List Value)) (a b : ByteArray) (w : World), HT h L w → h.n 2 ≤ 1000 → (h.n 2 ≤ h.c 2 ∧ h.c 2 ≤ 9223372036854775807) → a.size ≤ maxLen → b.size ≤ maxLen → Calls Try.prog 13 #[.agg h.cells, .agg #[.string a, .string b]] w (PutP 39 2 2 (addZE (L 2) [.string a, .string b]) (putG ordZone (L 2) [.string a, .string b]) h w)
  addb : ∀ (h : Hs) (L : Nat → List (List Value)) (xc xz : ByteArray) (kd ai pl vo we : Int) (fz : Bool) (w : World), HT h L w → h.n 3 ≤ 1000 → (h.n 3 ≤ h.c 3 ∧ h.c 3 ≤ 9223372036854775807) → xc.size ≤ maxLen → Calls Try.prog 15 #[.agg h.cells, .agg #[.string xc, .string xz, .int .i64 kd, .int .i64 ai, .int .i64 pl, .int .i64 vo, .int .i64 we, .bool fz]] w (PutP 41 8 3 (addBE (L 2) (L 3) (Bn.mk xc xz kd ai pl vo we fz)) (putG ordBin (L 3) (Bn.mk xc xz kd ai pl vo we fz).cells) h w)
  find : ∀ (h : Hs) (L : Nat → List (List Value)) (s : ByteArray) (w : World), HT h L w → Calls Try.prog 19 #[.agg h.cells, .string s] w fun e w' => e = .returned (.tuple #[.agg (gotBin (L 3) s).toArray, .bool (atBin (L 3) s).isSome]) ∧ Below w.heap.size w w'
  site : ∀ (h : Hs) (L : Nat → List (List Value)) (s : ByteArray) (w : World), HT h L w → Calls Try.prog 23 #[.agg h.cells, .string s] w fun e w' => e = .returned (.string (siteT (L 2) (L 3) s)) ∧ Below w.heap.size w w'
  freeze : ∀ (h : Hs) (L : Nat → List (List Value)) (s : ByteArray) (on : Bool) (w : World), HT h L w → h.n 3 ≤ 1000 → (h.n 3 ≤ h.c 3 ∧ h.c 3 ≤ 9223372036854775807) → Calls Try.prog 21 #[.agg h.cells, .string s, .bool on] w (PutP 41 8 3 (frE (L 3) s on) (frL (L 3) s on) h w)

/-- The examples' lists. -/
def exL0 : Nat → List (List Value) := fun _ => []
def exZ : List Value := [.string ⟨#[122]⟩, .string ⟨#[115]⟩]
def exB : Bn := ⟨⟨#[98]⟩, ⟨#[122]⟩, 1, 0, 0, 0, 0, false⟩
def exY : Bn := ⟨⟨#[98]⟩, ⟨#[121]⟩, 1, 0, 0, 0, 0, false⟩
def exL1 : Nat → List (List Value) := setE (addZE (exL0 2) exZ) exL0 2 (putG ordZone (exL0 2) exZ)
def exL2 : Nat → List (List Value) := setE (addBE (exL1 2) (exL1 3) exB) exL1 3 (putG ordBin (exL1 3) exB.cells)
def exL3 : Nat → List (List Value) := setE (frE (exL2 3) ⟨#[98]⟩ true) exL2 3 (frL (exL2 3) ⟨#[98]⟩ true)
def exL4 : Nat → List (List Value) := setE (frE (exL3 3) ⟨#[98]⟩ false) exL3 3 (frL (exL3 3) ⟨#[98]⟩ false)

set_option maxRecDepth 100000 in
set_option maxHeartbeats 3200000 in
/-- The chapter's examples hold. -/
theorem awake_any (C : Cons) (w : World) : Calls Try.prog 11 #[] w fun e w' => e = .returned (.bool true) ∧ Below w.heap.size w w' := by
  have huh := Try.underlying37
  have HSH : Hid (∀ a : Hs, (Try.prog.info? 37).map (·.size) = some a.cells.size) := Lib.hid (fun a => by kernel_rfl)
  have HSHL : Hid (∀ a : Hs, (Try.prog.info? 37).map (·.size) = some a.cells.toList.length) := Lib.hid (fun a => by kernel_rfl)
  have H1C : Hid (∀ a : Hs, a.cells.all (·.oneCell') = true) := Lib.hid (fun a => by simp [Hs.cells, Value.oneCell'])
  have E1 : Hid (((addZE (exL0 2) [.string ⟨#[122]⟩, .string ⟨#[115]⟩] : Nat) : Int) = 0) := Lib.hid (by decide +kernel)
  have E2 : Hid (((addBE (exL1 2) (exL1 3) (Bn.mk ⟨#[98]⟩ ⟨#[122]⟩ 1 0 0 0 0 false) : Nat) : Int) = 0) := Lib.hid (by decide +kernel)
  have E3 : Hid (((addBE (exL1 2) (exL1 3) (Bn.mk ⟨#[98]⟩ ⟨#[121]⟩ 1 0 0 0 0 false) : Nat) : Int) = 12) := Lib.hid (by decide +kernel)
  have E4 : Hid (((frE (exL2 3) ⟨#[98]⟩ true : Nat) : Int) = 0) := Lib.hid (by decide +kernel)
  have E5 : Hid (((frE (exL3 3) ⟨#[98]⟩ true : Nat) : Int) = 25) := Lib.hid (by decide +kernel)
  have E6 : Hid (((frE (exL3 3) ⟨#[98]⟩ false : Nat) : Int) = 0) := Lib.hid (by decide +kernel)
  have E7 : Hid (((frE (exL4 3) ⟨#[98]⟩ false : Nat) : Int) = 13) := Lib.hid (by decide +kernel)
  have E8 : Hid (siteT (exL2 2) (exL2 3) ⟨#[98]⟩ = ⟨#[115]⟩) := Lib.hid (by decide +kernel)
  have N0 : Hid ((exL0 2).length ≤ 1000) := Lib.hid (by decide +kernel)
  have N1 : Hid ((exL1 3).length ≤ 1000) := Lib.hid (by decide +kernel)
  have N2 : Hid ((exL2 3).length ≤ 1000) := Lib.hid (by decide +kernel)
  have N3 : Hid ((exL3 3).length ≤ 1000) := Lib.hid (by decide +kernel)
  have N4 : Hid ((exL4 3).length ≤ 1000) := Lib.hid (by decide +kernel)
  have HTN0 := Lib.hid (hsN_ht w)
  have B0 := Lib.hid (Below.refl w.heap.size w)
  have HCO := Lib.hid C
  go_enter Try.func11, Try.ntmps11
  go_wp2_with fail
  refine (HCO.out.addz hsN exL0 ⟨#[122]⟩ ⟨#[115]⟩ _ HTN0.out (Nat.zero_le _) (hsN_caps 2 (by decide)) (by decide) (by decide)).mono ?_
  intro e w1 ha
  obtain ⟨a, rfl, hat, haz, hb1, hac⟩ := PutP.put (i := 2) (by decide) (zone_fits _ _) (Nat.zero_le _) HTN0.out ha
  rw [E1.out]
  have B1 := Lib.hid (B0.out.trans (hb1.mono B0.out.size))
  have HTN1 := Lib.hid (HTN0.out.below hb1)
  have HTa1 := Lib.hid hat
  have HZa := Lib.hid (haz)
  have HACa := Lib.hid hac
  clear ha hat haz hb1 hac
  have HQ2 : Hid ((w1.alloc (.cells #[.slice none 0 0, .slice none 0 0, .slice none 0 0, .slice none 0 0, .slice none 0 0, .slice none 0 0, .slice none 0 0, .slice none 0 0, .slice none 0 0, .slice none 0 0, .slice none 0 0, .slice none 0 0, .slice none 0 0, .slice none 0 0, .int .i64 0] 37)).heap[w1.heap.size]? = some (.cells #[.slice none 0 0, .slice none 0 0, .slice none 0 0, .slice none 0 0, .slice none 0 0, .slice none 0 0, .slice none 0 0, .slice none 0 0, .slice none 0 0, .slice none 0 0, .slice none 0 0, .slice none 0 0, .slice none 0 0, .slice none 0 0, .int .i64 0] 37 (0, 0))) := Lib.hid (heap_alloc_new _ _)
  obtain ⟨w2, hw2⟩ : ∃ w', w' = (w1.alloc (.cells #[.slice none 0 0, .slice none 0 0, .slice none 0 0, .slice none 0 0, .slice none 0 0, .slice none 0 0, .slice none 0 0, .slice none 0 0, .slice none 0 0, .slice none 0 0, .slice none 0 0, .slice none 0 0, .slice none 0 0, .slice none 0 0, .int .i64 0] 37)).setRow w1.heap.size a.cells := ⟨_, rfl⟩
  have hb2 : Below w1.heap.size w1 w2 := by rw [hw2]; exact setRow_below ((Below.refl _ _).alloc (Nat.le_refl _) _) (Nat.le_refl _) _
  have B2 := Lib.hid (B1.out.trans (hb2.mono B1.out.size))
  have HTN2 := Lib.hid (HTN1.out.below hb2)
  have HTa2 := Lib.hid (HTa1.out.below hb2)
  have HA2 : Hid (w2.heap[w1.heap.size]? = some (.cells a.cells 37 (0, 0))) := Lib.hid (by rw [hw2]; exact setRow_heap _ _ _ _ _ _ HQ2.out)
  have HW2 := Lib.hid hw2
  clear hb2 hw2
  go_wp2_with (first
    | (refine wpList_store_row rfl 37 (.tmp 1) (.tmp 19) rfl w1.heap.size a.cells rfl rfl _ _ HQ2.out (HSH.out _) rfl (H1C.out _) ?_; rw [← HW2.out])
    | (refine wpList_load_row rfl 37 (.tmp 1) rfl w1.heap.size rfl _ _ _ _ HA2.out huh rfl (HSH.out _) ?_)
    | fail)
  refine (HCO.out.addb a exL1 ⟨#[98]⟩ ⟨#[122]⟩ 1 0 0 0 0 false _ HTa2.out (by rw [(HTa2.out 3 (by decide)).1]; exact N1.out) (HACa.out hsN_caps 3 (by decide)) (by decide)).mono ?_
  intro e w3 ha
  obtain ⟨b, rfl, hat, haz, hb3, hac⟩ := PutP.put (i := 3) (by decide) (Bn.fits _) (by rw [(HTa2.out 3 (by decide)).1]; exact N1.out) HTa2.out ha
  rw [E2.out]
  have HA3 := Lib.hid ((hb3.block _ (lt_of_block HA2.out)).trans HA2.out)
  have B3 := Lib.hid (B2.out.trans (hb3.mono B2.out.size))
  have HTN3 := Lib.hid (HTN2.out.below hb3)
  have HTa3 := Lib.hid (HTa2.out.below hb3)
  have HTb3 := Lib.hid hat
  have HZb := Lib.hid (haz)
  have HACb := Lib.hid hac
  clear ha hat haz hb3 hac
  have HQ4 : Hid ((w3.alloc (.cells #[.slice none 0 0, .slice none 0 0, .slice none 0 0, .slice none 0 0, .slice none 0 0, .slice none 0 0, .slice none 0 0, .slice none 0 0, .slice none 0 0, .slice none 0 0, .slice none 0 0, .slice none 0 0, .slice none 0 0, .slice none 0 0, .int .i64 0] 37)).heap[w3.heap.size]? = some (.cells #[.slice none 0 0, .slice none 0 0, .slice none 0 0, .slice none 0 0, .slice none 0 0, .slice none 0 0, .slice none 0 0, .slice none 0 0, .slice none 0 0, .slice none 0 0, .slice none 0 0, .slice none 0 0, .slice none 0 0, .slice none 0 0, .int .i64 0] 37 (0, 0))) := Lib.hid (heap_alloc_new _ _)
  obtain ⟨w4, hw4⟩ : ∃ w', w' = (w3.alloc (.cells #[.slice none 0 0, .slice none 0 0, .slice none 0 0, .slice none 0 0, .slice none 0 0, .slice none 0 0, .slice none 0 0, .slice none 0 0, .slice none 0 0, .slice none 0 0, .slice none 0 0, .slice none 0 0, .slice none 0 0, .slice none 0 0, .int .i64 0] 37)).setRow w3.heap.size b.cells := ⟨_, rfl⟩
  have hb4 : Below w3.heap.size w3 w4 := by rw [hw4]; exact setRow_below ((Below.refl _ _).alloc (Nat.le_refl _) _) (Nat.le_refl _) _
  have HA4 := Lib.hid ((hb4.block _ (lt_of_block HA3.out)).trans HA3.out)
  have B4 := Lib.hid (B3.out.trans (hb4.mono B3.out.size))
  have HTN4 := Lib.hid (HTN3.out.below hb4)
  have HTa4 := Lib.hid (HTa3.out.below hb4)
  have HTb4 := Lib.hid (HTb3.out.below hb4)
  have HB4 : Hid (w4.heap[w3.heap.size]? = some (.cells b.cells 37 (0, 0))) := Lib.hid (by rw [hw4]; exact setRow_heap _ _ _ _ _ _ HQ4.out)
  have HW4 := Lib.hid hw4
  clear hb4 hw4
  go_wp2_with (first
    | (refine wpList_store_row rfl 37 (.tmp 3) (.tmp 25) rfl w3.heap.size b.cells rfl rfl _ _ HQ4.out (HSH.out _) rfl (H1C.out _) ?_; rw [← HW4.out])
    | (refine wpList_load_row rfl 37 (.tmp 1) rfl w1.heap.size rfl _ _ _ _ HA4.out huh rfl (HSH.out _) ?_)
    | fail)
  refine (HCO.out.addb a exL1 ⟨#[98]⟩ ⟨#[121]⟩ 1 0 0 0 0 false _ HTa4.out (by rw [(HTa4.out 3 (by decide)).1]; exact N1.out) (HACa.out hsN_caps 3 (by decide)) (by decide)).mono ?_
  intro e w5 ha
  obtain ⟨c, rfl, hat, haz, hb5, hac⟩ := PutP.put (i := 3) (by decide) (Bn.fits _) (by rw [(HTa4.out 3 (by decide)).1]; exact N1.out) HTa4.out ha
  rw [E3.out]
  have HA5 := Lib.hid ((hb5.block _ (lt_of_block HA4.out)).trans HA4.out)
  have HB5 := Lib.hid ((hb5.block _ (lt_of_block HB4.out)).trans HB4.out)
  have B5 := Lib.hid (B4.out.trans (hb5.mono B4.out.size))
  have HTN5 := Lib.hid (HTN4.out.below hb5)
  have HTa5 := Lib.hid (HTa4.out.below hb5)
  have HTb5 := Lib.hid (HTb4.out.below hb5)
  have HTc5 := Lib.hid hat
  have HZc := Lib.hid (haz)
  have HACc := Lib.hid hac
  clear ha hat haz hb5 hac
  have HQ6 : Hid ((w5.alloc (.cells #[.slice none 0 0, .slice none 0 0, .slice none 0 0, .slice none 0 0, .slice none 0 0, .slice none 0 0, .slice none 0 0, .slice none 0 0, .slice none 0 0, .slice none 0 0, .slice none 0 0, .slice none 0 0, .slice none 0 0, .slice none 0 0, .int .i64 0] 37)).heap[w5.heap.size]? = some (.cells #[.slice none 0 0, .slice none 0 0, .slice none 0 0, .slice none 0 0, .slice none 0 0, .slice none 0 0, .slice none 0 0, .slice none 0 0, .slice none 0 0, .slice none 0 0, .slice none 0 0, .slice none 0 0, .slice none 0 0, .slice none 0 0, .int .i64 0] 37 (0, 0))) := Lib.hid (heap_alloc_new _ _)
  obtain ⟨w6, hw6⟩ : ∃ w', w' = (w5.alloc (.cells #[.slice none 0 0, .slice none 0 0, .slice none 0 0, .slice none 0 0, .slice none 0 0, .slice none 0 0, .slice none 0 0, .slice none 0 0, .slice none 0 0, .slice none 0 0, .slice none 0 0, .slice none 0 0, .slice none 0 0, .slice none 0 0, .int .i64 0] 37)).setRow w5.heap.size c.cells := ⟨_, rfl⟩
  have hb6 : Below w5.heap.size w5 w6 := by rw [hw6]; exact setRow_below ((Below.refl _ _).alloc (Nat.le_refl _) _) (Nat.le_refl _) _
  have HA6 := Lib.hid ((hb6.block _ (lt_of_block HA5.out)).trans HA5.out)
  have HB6 := Lib.hid ((hb6.block _ (lt_of_block HB5.out)).trans HB5.out)
  have B6 := Lib.hid (B5.out.trans (hb6.mono B5.out.size))
  have HTN6 := Lib.hid (HTN5.out.below hb6)
  have HTa6 := Lib.hid (HTa5.out.below hb6)
  have HTb6 := Lib.hid (HTb5.out.below hb6)
  have HTc6 := Lib.hid (HTc5.out.below hb6)
  have HC6 : Hid (w6.heap[w5.heap.size]? = some (.cells c.cells 37 (0, 0))) := Lib.hid (by rw [hw6]; exact setRow_heap _ _ _ _ _ _ HQ6.out)
  have HW6 := Lib.hid hw6
  clear hb6 hw6
  go_wp2_with (first
    | (refine wpList_store_row rfl 37 (.tmp 5) (.tmp 31) rfl w5.heap.size c.cells rfl rfl _ _ HQ6.out (HSH.out _) rfl (H1C.out _) ?_; rw [← HW6.out])
    | (refine wpList_load_row rfl 37 (.tmp 3) rfl w3.heap.size rfl _ _ _ _ HB6.out huh rfl (HSH.out _) ?_)
    | fail)
  have CAPb : Hid (Caps b) := Lib.hid (HACb.out (HACa.out hsN_caps))
  refine (HCO.out.freeze b exL2 ⟨#[98]⟩ true _ HTb6.out (by rw [(HTb6.out 3 (by decide)).1]; exact N2.out) (CAPb.out 3 (by decide))).mono ?_
  intro e w7 ha
  obtain ⟨d, rfl, hat, haz, hb7, hac⟩ := PutP.put (i := 3) (by decide) (Bn.fits _) (by rw [(HTb6.out 3 (by decide)).1]; exact N2.out) HTb6.out ha
  rw [E4.out]
  have HA7 := Lib.hid ((hb7.block _ (lt_of_block HA6.out)).trans HA6.out)
  have HB7 := Lib.hid ((hb7.block _ (lt_of_block HB6.out)).trans HB6.out)
  have HC7 := Lib.hid ((hb7.block _ (lt_of_block HC6.out)).trans HC6.out)
  have B7 := Lib.hid (B6.out.trans (hb7.mono B6.out.size))
  have HTN7 := Lib.hid (HTN6.out.below hb7)
  have HTa7 := Lib.hid (HTa6.out.below hb7)
  have HTb7 := Lib.hid (HTb6.out.below hb7)
  have HTc7 := Lib.hid (HTc6.out.below hb7)
  have HTd7 := Lib.hid hat
  have HZd := Lib.hid (haz)
  have HACd := Lib.hid hac
  clear ha hat haz hb7 hac
  have HQ8 : Hid ((w7.alloc (.cells #[.slice none 0 0, .slice none 0 0, .slice none 0 0, .slice none 0 0, .slice none 0 0, .slice none 0 0, .slice none 0 0, .slice none 0 0, .slice none 0 0, .slice none 0 0, .slice none 0 0, .slice none 0 0, .slice none 0 0, .slice none 0 0, .int .i64 0] 37)).heap[w7.heap.size]? = some (.cells #[.slice none 0 0, .slice none 0 0, .slice none 0 0, .slice none 0 0, .slice none 0 0, .slice none 0 0, .slice none 0 0, .slice none 0 0, .slice none 0 0, .slice none 0 0, .slice none 0 0, .slice none 0 0, .slice none 0 0, .slice none 0 0, .int .i64 0] 37 (0, 0))) := Lib.hid (heap_alloc_new _ _)
  obtain ⟨w8, hw8⟩ : ∃ w', w' = (w7.alloc (.cells #[.slice none 0 0, .slice none 0 0, .slice none 0 0, .slice none 0 0, .slice none 0 0, .slice none 0 0, .slice none 0 0, .slice none 0 0, .slice none 0 0, .slice none 0 0, .slice none 0 0, .slice none 0 0, .slice none 0 0, .slice none 0 0, .int .i64 0] 37)).setRow w7.heap.size d.cells := ⟨_, rfl⟩
  have hb8 : Below w7.heap.size w7 w8 := by rw [hw8]; exact setRow_below ((Below.refl _ _).alloc (Nat.le_refl _) _) (Nat.le_refl _) _
  have HA8 := Lib.hid ((hb8.block _ (lt_of_block HA7.out)).trans HA7.out)
  have HB8 := Lib.hid ((hb8.block _ (lt_of_block HB7.out)).trans HB7.out)
  have HC8 := Lib.hid ((hb8.block _ (lt_of_block HC7.out)).trans HC7.out)
  have B8 := Lib.hid (B7.out.trans (hb8.mono B7.out.size))
  have HTN8 := Lib.hid (HTN7.out.below hb8)
  have HTa8 := Lib.hid (HTa7.out.below hb8)
  have HTb8 := Lib.hid (HTb7.out.below hb8)
  have HTc8 := Lib.hid (HTc7.out.below hb8)
  have HTd8 := Lib.hid (HTd7.out.below hb8)
  have HD8 : Hid (w8.heap[w7.heap.size]? = some (.cells d.cells 37 (0, 0))) := Lib.hid (by rw [hw8]; exact setRow_heap _ _ _ _ _ _ HQ8.out)
  have HW8 := Lib.hid hw8
  clear hb8 hw8
  have CAPd : Hid (Caps d) := Lib.hid (HACd.out CAPb.out)
  go_wp2_with (first
    | (refine wpList_store_row rfl 37 (.tmp 7) (.tmp 36) rfl w7.heap.size d.cells rfl rfl _ _ HQ8.out (HSH.out _) rfl (H1C.out _) ?_; rw [← HW8.out])
    | (refine wpList_load_row rfl 37 (.tmp 7) rfl w7.heap.size rfl _ _ _ _ HD8.out huh rfl (HSH.out _) ?_)
    | fail)
  refine (HCO.out.freeze d exL3 ⟨#[98]⟩ true _ HTd8.out (by rw [(HTd8.out 3 (by decide)).1]; exact N3.out) (CAPd.out 3 (by decide))).mono ?_
  intro e w9 ha
  obtain ⟨f, rfl, hat, haz, hb9, hac⟩ := PutP.put (i := 3) (by decide) (Bn.fits _) (by rw [(HTd8.out 3 (by decide)).1]; exact N3.out) HTd8.out ha
  rw [E5.out]
  have HA9 := Lib.hid ((hb9.block _ (lt_of_block HA8.out)).trans HA8.out)
  have HB9 := Lib.hid ((hb9.block _ (lt_of_block HB8.out)).trans HB8.out)
  have HC9 := Lib.hid ((hb9.block _ (lt_of_block HC8.out)).trans HC8.out)
  have HD9 := Lib.hid ((hb9.block _ (lt_of_block HD8.out)).trans HD8.out)
  have B9 := Lib.hid (B8.out.trans (hb9.mono B8.out.size))
  have HTN9 := Lib.hid (HTN8.out.below hb9)
  have HTa9 := Lib.hid (HTa8.out.below hb9)
  have HTb9 := Lib.hid (HTb8.out.below hb9)
  have HTc9 := Lib.hid (HTc8.out.below hb9)
  have HTd9 := Lib.hid (HTd8.out.below hb9)
  have HTf9 := Lib.hid hat
  have HZf := Lib.hid (haz)
  have HACf := Lib.hid hac
  clear ha hat haz hb9 hac
  have HQ10 : Hid ((w9.alloc (.cells #[.slice none 0 0, .slice none 0 0, .slice none 0 0, .slice none 0 0, .slice none 0 0, .slice none 0 0, .slice none 0 0, .slice none 0 0, .slice none 0 0, .slice none 0 0, .slice none 0 0, .slice none 0 0, .slice none 0 0, .slice none 0 0, .int .i64 0] 37)).heap[w9.heap.size]? = some (.cells #[.slice none 0 0, .slice none 0 0, .slice none 0 0, .slice none 0 0, .slice none 0 0, .slice none 0 0, .slice none 0 0, .slice none 0 0, .slice none 0 0, .slice none 0 0, .slice none 0 0, .slice none 0 0, .slice none 0 0, .slice none 0 0, .int .i64 0] 37 (0, 0))) := Lib.hid (heap_alloc_new _ _)
  obtain ⟨w10, hw10⟩ : ∃ w', w' = (w9.alloc (.cells #[.slice none 0 0, .slice none 0 0, .slice none 0 0, .slice none 0 0, .slice none 0 0, .slice none 0 0, .slice none 0 0, .slice none 0 0, .slice none 0 0, .slice none 0 0, .slice none 0 0, .slice none 0 0, .slice none 0 0, .slice none 0 0, .int .i64 0] 37)).setRow w9.heap.size f.cells := ⟨_, rfl⟩
  have hb10 : Below w9.heap.size w9 w10 := by rw [hw10]; exact setRow_below ((Below.refl _ _).alloc (Nat.le_refl _) _) (Nat.le_refl _) _
  have HA10 := Lib.hid ((hb10.block _ (lt_of_block HA9.out)).trans HA9.out)
  have HB10 := Lib.hid ((hb10.block _ (lt_of_block HB9.out)).trans HB9.out)
  have HC10 := Lib.hid ((hb10.block _ (lt_of_block HC9.out)).trans HC9.out)
  have HD10 := Lib.hid ((hb10.block _ (lt_of_block HD9.out)).trans HD9.out)
  have B10 := Lib.hid (B9.out.trans (hb10.mono B9.out.size))
  have HTN10 := Lib.hid (HTN9.out.below hb10)
  have HTa10 := Lib.hid (HTa9.out.below hb10)
  have HTb10 := Lib.hid (HTb9.out.below hb10)
  have HTc10 := Lib.hid (HTc9.out.below hb10)
  have HTd10 := Lib.hid (HTd9.out.below hb10)
  have HTf10 := Lib.hid (HTf9.out.below hb10)
  have HF10 : Hid (w10.heap[w9.heap.size]? = some (.cells f.cells 37 (0, 0))) := Lib.hid (by rw [hw10]; exact setRow_heap _ _ _ _ _ _ HQ10.out)
  have HW10 := Lib.hid hw10
  clear hb10 hw10
  go_wp2_with (first
    | (refine wpList_store_row rfl 37 (.tmp 9) (.tmp 41) rfl w9.heap.size f.cells rfl rfl _ _ HQ10.out (HSH.out _) rfl (H1C.out _) ?_; rw [← HW10.out])
    | (refine wpList_load_row rfl 37 (.tmp 7) rfl w7.heap.size rfl _ _ _ _ HD10.out huh rfl (HSH.out _) ?_)
    | fail)
  refine (HCO.out.freeze d exL3 ⟨#[98]⟩ false _ HTd10.out (by rw [(HTd10.out 3 (by decide)).1]; exact N3.out) (CAPd.out 3 (by decide))).mono ?_
  intro e w11 ha
  obtain ⟨g, rfl, hat, haz, hb11, hac⟩ := PutP.put (i := 3) (by decide) (Bn.fits _) (by rw [(HTd10.out 3 (by decide)).1]; exact N3.out) HTd10.out ha
  rw [E6.out]
  have HA11 := Lib.hid ((hb11.block _ (lt_of_block HA10.out)).trans HA10.out)
  have HB11 := Lib.hid ((hb11.block _ (lt_of_block HB10.out)).trans HB10.out)
  have HC11 := Lib.hid ((hb11.block _ (lt_of_block HC10.out)).trans HC10.out)
  have HD11 := Lib.hid ((hb11.block _ (lt_of_block HD10.out)).trans HD10.out)
  have HF11 := Lib.hid ((hb11.block _ (lt_of_block HF10.out)).trans HF10.out)
  have B11 := Lib.hid (B10.out.trans (hb11.mono B10.out.size))
  have HTN11 := Lib.hid (HTN10.out.below hb11)
  have HTa11 := Lib.hid (HTa10.out.below hb11)
  have HTb11 := Lib.hid (HTb10.out.below hb11)
  have HTc11 := Lib.hid (HTc10.out.below hb11)
  have HTd11 := Lib.hid (HTd10.out.below hb11)
  have HTf11 := Lib.hid (HTf10.out.below hb11)
  have HTg11 := Lib.hid hat
  have HZg := Lib.hid (haz)
  have HACg := Lib.hid hac
  clear ha hat haz hb11 hac
  have HQ12 : Hid ((w11.alloc (.cells #[.slice none 0 0, .slice none 0 0, .slice none 0 0, .slice none 0 0, .slice none 0 0, .slice none 0 0, .slice none 0 0, .slice none 0 0, .slice none 0 0, .slice none 0 0, .slice none 0 0, .slice none 0 0, .slice none 0 0, .slice none 0 0, .int .i64 0] 37)).heap[w11.heap.size]? = some (.cells #[.slice none 0 0, .slice none 0 0, .slice none 0 0, .slice none 0 0, .slice none 0 0, .slice none 0 0, .slice none 0 0, .slice none 0 0, .slice none 0 0, .slice none 0 0, .slice none 0 0, .slice none 0 0, .slice none 0 0, .slice none 0 0, .int .i64 0] 37 (0, 0))) := Lib.hid (heap_alloc_new _ _)
  obtain ⟨w12, hw12⟩ : ∃ w', w' = (w11.alloc (.cells #[.slice none 0 0, .slice none 0 0, .slice none 0 0, .slice none 0 0, .slice none 0 0, .slice none 0 0, .slice none 0 0, .slice none 0 0, .slice none 0 0, .slice none 0 0, .slice none 0 0, .slice none 0 0, .slice none 0 0, .slice none 0 0, .int .i64 0] 37)).setRow w11.heap.size g.cells := ⟨_, rfl⟩
  have hb12 : Below w11.heap.size w11 w12 := by rw [hw12]; exact setRow_below ((Below.refl _ _).alloc (Nat.le_refl _) _) (Nat.le_refl _) _
  have HA12 := Lib.hid ((hb12.block _ (lt_of_block HA11.out)).trans HA11.out)
  have HB12 := Lib.hid ((hb12.block _ (lt_of_block HB11.out)).trans HB11.out)
  have HC12 := Lib.hid ((hb12.block _ (lt_of_block HC11.out)).trans HC11.out)
  have HD12 := Lib.hid ((hb12.block _ (lt_of_block HD11.out)).trans HD11.out)
  have HF12 := Lib.hid ((hb12.block _ (lt_of_block HF11.out)).trans HF11.out)
  have B12 := Lib.hid (B11.out.trans (hb12.mono B11.out.size))
  have HTN12 := Lib.hid (HTN11.out.below hb12)
  have HTa12 := Lib.hid (HTa11.out.below hb12)
  have HTb12 := Lib.hid (HTb11.out.below hb12)
  have HTc12 := Lib.hid (HTc11.out.below hb12)
  have HTd12 := Lib.hid (HTd11.out.below hb12)
  have HTf12 := Lib.hid (HTf11.out.below hb12)
  have HTg12 := Lib.hid (HTg11.out.below hb12)
  have HG12 : Hid (w12.heap[w11.heap.size]? = some (.cells g.cells 37 (0, 0))) := Lib.hid (by rw [hw12]; exact setRow_heap _ _ _ _ _ _ HQ12.out)
  have HW12 := Lib.hid hw12
  clear hb12 hw12
  have CAPg : Hid (Caps g) := Lib.hid (HACg.out CAPd.out)
  go_wp2_with (first
    | (refine wpList_store_row rfl 37 (.tmp 11) (.tmp 46) rfl w11.heap.size g.cells rfl rfl _ _ HQ12.out (HSH.out _) rfl (H1C.out _) ?_; rw [← HW12.out])
    | (refine wpList_load_row rfl 37 (.tmp 11) rfl w11.heap.size rfl _ _ _ _ HG12.out huh rfl (HSH.out _) ?_)
    | fail)
  refine (HCO.out.freeze g exL4 ⟨#[98]⟩ false _ HTg12.out (by rw [(HTg12.out 3 (by decide)).1]; exact N4.out) (CAPg.out 3 (by decide))).mono ?_
  intro e w13 ha
  obtain ⟨j, rfl, hat, haz, hb13, hac⟩ := PutP.put (i := 3) (by decide) (Bn.fits _) (by rw [(HTg12.out 3 (by decide)).1]; exact N4.out) HTg12.out ha
  rw [E7.out]
  have HA13 := Lib.hid ((hb13.block _ (lt_of_block HA12.out)).trans HA12.out)
  have HB13 := Lib.hid ((hb13.block _ (lt_of_block HB12.out)).trans HB12.out)
  have HC13 := Lib.hid ((hb13.block _ (lt_of_block HC12.out)).trans HC12.out)
  have HD13 := Lib.hid ((hb13.block _ (lt_of_block HD12.out)).trans HD12.out)
  have HF13 := Lib.hid ((hb13.block _ (lt_of_block HF12.out)).trans HF12.out)
  have HG13 := Lib.hid ((hb13.block _ (lt_of_block HG12.out)).trans HG12.out)
  have B13 := Lib.hid (B12.out.trans (hb13.mono B12.out.size))
  have HTN13 := Lib.hid (HTN12.out.below hb13)
  have HTa13 := Lib.hid (HTa12.out.below hb13)
  have HTb13 := Lib.hid (HTb12.out.below hb13)
  have HTc13 := Lib.hid (HTc12.out.below hb13)
  have HTd13 := Lib.hid (HTd12.out.below hb13)
  have HTf13 := Lib.hid (HTf12.out.below hb13)
  have HTg13 := Lib.hid (HTg12.out.below hb13)
  have HTj13 := Lib.hid hat
  have HZj := Lib.hid (haz)
  have HACj := Lib.hid hac
  clear ha hat haz hb13 hac
  have HQ14 : Hid ((w13.alloc (.cells #[.slice none 0 0, .slice none 0 0, .slice none 0 0, .slice none 0 0, .slice none 0 0, .slice none 0 0, .slice none 0 0, .slice none 0 0, .slice none 0 0, .slice none 0 0, .slice none 0 0, .slice none 0 0, .slice none 0 0, .slice none 0 0, .int .i64 0] 37)).heap[w13.heap.size]? = some (.cells #[.slice none 0 0, .slice none 0 0, .slice none 0 0, .slice none 0 0, .slice none 0 0, .slice none 0 0, .slice none 0 0, .slice none 0 0, .slice none 0 0, .slice none 0 0, .slice none 0 0, .slice none 0 0, .slice none 0 0, .slice none 0 0, .int .i64 0] 37 (0, 0))) := Lib.hid (heap_alloc_new _ _)
  obtain ⟨w14, hw14⟩ : ∃ w', w' = (w13.alloc (.cells #[.slice none 0 0, .slice none 0 0, .slice none 0 0, .slice none 0 0, .slice none 0 0, .slice none 0 0, .slice none 0 0, .slice none 0 0, .slice none 0 0, .slice none 0 0, .slice none 0 0, .slice none 0 0, .slice none 0 0, .slice none 0 0, .int .i64 0] 37)).setRow w13.heap.size j.cells := ⟨_, rfl⟩
  have hb14 : Below w13.heap.size w13 w14 := by rw [hw14]; exact setRow_below ((Below.refl _ _).alloc (Nat.le_refl _) _) (Nat.le_refl _) _
  have HA14 := Lib.hid ((hb14.block _ (lt_of_block HA13.out)).trans HA13.out)
  have HB14 := Lib.hid ((hb14.block _ (lt_of_block HB13.out)).trans HB13.out)
  have HC14 := Lib.hid ((hb14.block _ (lt_of_block HC13.out)).trans HC13.out)
  have HD14 := Lib.hid ((hb14.block _ (lt_of_block HD13.out)).trans HD13.out)
  have HF14 := Lib.hid ((hb14.block _ (lt_of_block HF13.out)).trans HF13.out)
  have HG14 := Lib.hid ((hb14.block _ (lt_of_block HG13.out)).trans HG13.out)
  have B14 := Lib.hid (B13.out.trans (hb14.mono B13.out.size))
  have HTN14 := Lib.hid (HTN13.out.below hb14)
  have HTa14 := Lib.hid (HTa13.out.below hb14)
  have HTb14 := Lib.hid (HTb13.out.below hb14)
  have HTc14 := Lib.hid (HTc13.out.below hb14)
  have HTd14 := Lib.hid (HTd13.out.below hb14)
  have HTf14 := Lib.hid (HTf13.out.below hb14)
  have HTg14 := Lib.hid (HTg13.out.below hb14)
  have HTj14 := Lib.hid (HTj13.out.below hb14)
  have HJ14 : Hid (w14.heap[w13.heap.size]? = some (.cells j.cells 37 (0, 0))) := Lib.hid (by rw [hw14]; exact setRow_heap _ _ _ _ _ _ HQ14.out)
  have HW14 := Lib.hid hw14
  clear hb14 hw14
  have HSI : Hid (∀ W, HT b exL2 W → Calls Try.prog 23 #[.agg b.cells, .string ⟨#[98]⟩] W fun e w' => e = .returned (.string ⟨#[115]⟩) ∧ Below W.heap.size W w') := Lib.hid (fun W hW => by have := HCO.out.site b exL2 ⟨#[98]⟩ W hW; rwa [E8.out] at this)
  go_wp2_with (first
    | (refine wpList_store_row rfl 37 (.tmp 13) (.tmp 51) rfl w13.heap.size j.cells rfl rfl _ _ HQ14.out (HSH.out _) rfl (H1C.out _) ?_; rw [← HW14.out])
    | (refine BigFrame.wpList_want (by kernel_rfl) (fun K hK => Go.wp_load_mid 37 (.tmp 3) rfl w3.heap.size 0 rfl b.cells.toList _ (range_row0 HB14.out) huh rfl (HSHL.out _) (hK _ _ ?_)); clear hK K)
    | fail)
  refine (HSI.out _ HTb14.out).mono ?_
  rintro e wn ⟨rfl, hbn⟩
  have BN := Lib.hid (B14.out.trans (hbn.mono B14.out.size))
  clear hbn
  go_wp2_with fail
  go_ret
  exact ⟨rfl, BN.out⟩
end Go.Proofs.Ytejlpmjgdaippaa
