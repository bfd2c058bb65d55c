/-
  THE SHAPE of the contracts of the code's Add, Fits, Day (Cons); the examples of the chapter over it.
-/
import Derived.Test.YthliomckpfeekaaLRAddA
import Derived.Test.YthliomckpfeekaaHKept
namespace Go.Proofs.Ythliomckpfeekaa
set_option linter.unusedVariables false
open Go.RowKit
open Pl (It putG)

/-- What the code's three functions answer. -/
structure Cons : Prop where
  add : ∀ (h : Hs) (L : Nat → List (List Value)) (x : List Value) (w : World), HT h L w → h.n 1 ≤ 1000 → (h.n 1 ≤ h.c 1 ∧ h.c 1 ≤ 9223372036854775807) → Fits kLot x → (codeL x).size ≤ maxLen → Calls Try.prog 11 #[.agg h.cells, .agg x.toArray] w (AddLP h L x w)
  fits : ∀ (h : Hs) (L : Nat → List (List Value)) (s t : ByteArray) (n : Int) (w : World), HT h L w → (-9223372036854775808 ≤ n ∧ n ≤ 9223372036854775807) → Calls Try.prog 14 #[.agg h.cells, .string s, .string t, .int .i64 n] w fun e w' => e = .returned (.int .i64 (fitE (L 0) (L 1) (L 4) s t n : Nat)) ∧ Below w.heap.size w w'
  day : ∀ (h : Hs) (L : Nat → List (List Value)) (s t : ByteArray) (w : World), HT h L w → Calls Try.prog 16 #[.agg h.cells, .string s, .string t] w fun e w' => e = .returned (.int .i64 (dayZ (L 1) s t)) ∧ Below w.heap.size w w'

/-- The house of the examples. -/
def exI : List Value := [.string ⟨#[110, 117, 116]⟩, .string ⟨#[]⟩, .int .i64 0, .string ⟨#[]⟩, .int .i64 0, .string ⟨#[]⟩, .int .i64 0, .string ⟨#[]⟩, .int .i64 0, .int .i64 0, .int .i64 0, .bool true, .bool false, .bool false]
def exL : List Value := [.string ⟨#[110, 117, 116]⟩, .string ⟨#[97]⟩, .int .i64 30]
def exLs : Nat → List (List Value) := fun i => if i = 0 then [exI] else if i = 1 then [exL] else []
def exH (p q : Nat) : Hs := ⟨fun i => if i = 0 then some ⟨p, 0, none⟩ else if i = 1 then some ⟨q, 0, none⟩ else none, fun i => if i = 0 then 1 else if i = 1 then 1 else 0, fun i => if i = 0 then 1 else if i = 1 then 1 else 0, 0⟩
theorem row_of_block {w : World} {b : Nat} {cs : List Value} {T : TypeId} (h : w.heap[b]? = some (.cells cs.toArray T (0, 0))) : Rd w w.heap.size (some ⟨b, 0, none⟩) [cs].flatten := fun _ => ⟨b, 0, rfl, lt_of_block h, fun j u hu => by
  rw [cell_of_block h, List.getElem?_toArray, Nat.zero_add]
  simpa using hu⟩
theorem ex_ht {W : World} {p q : Nat} (hp : W.heap[p]? = some (.cells exI.toArray 59 (0, 0))) (hq : W.heap[q]? = some (.cells exL.toArray 39 (0, 0))) : HT (exH p q) exLs W := fun i hi => by
  by_cases h0 : i = 0
  · subst h0
    exact ⟨rfl, (by omega : (1 : Nat) ≤ 1000000), Things.one ⟨⟨_, rfl⟩, ⟨_, rfl⟩, ⟨_, rfl⟩, ⟨_, rfl⟩, ⟨_, rfl⟩, ⟨_, rfl⟩, ⟨_, rfl⟩, ⟨_, rfl⟩, ⟨_, rfl⟩, ⟨_, rfl⟩, ⟨_, rfl⟩, ⟨_, rfl⟩, ⟨_, rfl⟩, ⟨_, rfl⟩, trivial⟩, row_of_block hp⟩
  · by_cases h1 : i = 1
    · subst h1
      exact ⟨rfl, (by omega : (1 : Nat) ≤ 1000000), Things.one (lot_fits _ _ _), row_of_block hq⟩
    · have e1 : exLs i = [] := by unfold exLs; rw [if_neg h0, if_neg h1]
      have e2 : (exH p q).n i = 0 := by show (if i = 0 then 1 else if i = 1 then 1 else 0) = 0; rw [if_neg h0, if_neg h1]
      rw [e1, e2]
      exact ⟨rfl, by omega, fun e he => by simp at he, Rd.none_⟩
theorem small_any (w : World) : Calls Try.prog 19 #[] w fun e w' => ∃ p q, e = .returned (.agg (exH p q).cells) ∧ HT (exH p q) exLs w' ∧ Below w.heap.size w w' := by
  go_enter Try.func19, Try.ntmps19
  go_wp2_with fail
  have huh := Try.underlying37
  obtain ⟨w1, hw1⟩ : ∃ w1, w1 = w.alloc (.cells (exH (w.heap.size + 1) (w.heap.size + 1 + 1)).cells 37) := ⟨_, rfl⟩
  have hs1 : w1.heap.size = w.heap.size + 1 := by rw [hw1]; simp
  have h1 : w1.heap[w.heap.size]? = some (.cells (exH (w.heap.size + 1) (w.heap.size + 1 + 1)).cells 37 (0, 0)) := by rw [hw1]; exact heap_alloc_new _ _
  have hb1 : Below w.heap.size w w1 := by rw [hw1]; exact (Below.refl _ _).alloc (Nat.le_refl _) _
  have hI := heap_alloc_new w1 (.cells exI.toArray 59)
  rw [hs1] at hI
  have hL := heap_alloc_new (w1.alloc (.cells exI.toArray 59)) (.cells exL.toArray 39)
  rw [show (w1.alloc (.cells exI.toArray 59)).heap.size = w.heap.size + 1 + 1 from by simp [hs1]] at hL
  have hI2 := (Below.heap_alloc (w1.alloc (.cells exI.toArray 59)) (.cells exL.toArray 39) (w.heap.size + 1) (by simp; omega)).trans hI
  have hH := (Below.heap_alloc (w1.alloc (.cells exI.toArray 59)) (.cells exL.toArray 39) w.heap.size (by simp; omega)).trans ((Below.heap_alloc w1 (.cells exI.toArray 59) w.heap.size (by omega)).trans h1)
  have hb2 := (hb1.alloc hb1.size (.cells exI.toArray 59)).alloc (hb1.alloc hb1.size (.cells exI.toArray 59)).size (.cells exL.toArray 39)
  subst hw1
  exact bodyPost_ret (results_cell_row rfl _ _ w.heap.size _ _ _ _ rfl hH huh rfl (by kernel_rfl)) rfl ⟨_, _, rfl, ex_ht hI2 hL, hb2⟩

set_option maxRecDepth 100000 in
set_option maxHeartbeats 1600000 in
/-- The chapter's examples hold. -/
theorem awake_any (C : Cons) (w : World) : Calls Try.prog 9 #[] w fun e w' => e = .returned (.bool true) ∧ Below w.heap.size w w' := by
  have F1 : Hid (∀ p q W, HT (exH p q) exLs W → Calls Try.prog 14 #[.agg (exH p q).cells, .string ⟨#[110, 117, 116]⟩, .string ⟨#[97]⟩, .int .i64 5] W fun e w' => e = .returned (.int .i64 0) ∧ Below W.heap.size W w') := Lib.hid (fun p q W h => (C.fits _ exLs _ _ _ W h (by omega)).mono fun e w' ⟨h1, h2⟩ => ⟨by rw [h1, show fitE (exLs 0) (exLs 1) (exLs 4) ⟨#[110, 117, 116]⟩ ⟨#[97]⟩ 5 = 0 from by decide +kernel]; rfl, h2⟩)
  have F2 : Hid (∀ p q W, HT (exH p q) exLs W → Calls Try.prog 14 #[.agg (exH p q).cells, .string ⟨#[110, 117, 116]⟩, .string ⟨#[98]⟩, .int .i64 5] W fun e w' => e = .returned (.int .i64 21) ∧ Below W.heap.size W w') := Lib.hid (fun p q W h => (C.fits _ exLs _ _ _ W h (by omega)).mono fun e w' ⟨h1, h2⟩ => ⟨by rw [h1, show fitE (exLs 0) (exLs 1) (exLs 4) ⟨#[110, 117, 116]⟩ ⟨#[98]⟩ 5 = 21 from by decide +kernel]; rfl, h2⟩)
  have F3 : Hid (∀ p q W, HT (exH p q) exLs W → Calls Try.prog 14 #[.agg (exH p q).cells, .string ⟨#[110, 117, 116]⟩, .string ⟨#[]⟩, .int .i64 5] W fun e w' => e = .returned (.int .i64 21) ∧ Below W.heap.size W w') := Lib.hid (fun p q W h => (C.fits _ exLs _ _ _ W h (by omega)).mono fun e w' ⟨h1, h2⟩ => ⟨by rw [h1, show fitE (exLs 0) (exLs 1) (exLs 4) ⟨#[110, 117, 116]⟩ ⟨#[]⟩ 5 = 21 from by decide +kernel]; rfl, h2⟩)
  have D1 : Hid (∀ p q W, HT (exH p q) exLs W → Calls Try.prog 16 #[.agg (exH p q).cells, .string ⟨#[110, 117, 116]⟩, .string ⟨#[97]⟩] W fun e w' => e = .returned (.int .i64 30) ∧ Below W.heap.size W w') := Lib.hid (fun p q W h => (C.day _ exLs _ _ W h).mono fun e w' ⟨h1, h2⟩ => ⟨by rw [h1, show dayZ (exLs 1) ⟨#[110, 117, 116]⟩ ⟨#[97]⟩ = 30 from by decide +kernel], h2⟩)
  have D2 : Hid (∀ p q W, HT (exH p q) exLs W → Calls Try.prog 16 #[.agg (exH p q).cells, .string ⟨#[110, 117, 116]⟩, .string ⟨#[98]⟩] W fun e w' => e = .returned (.int .i64 100001) ∧ Below W.heap.size W w') := Lib.hid (fun p q W h => (C.day _ exLs _ _ W h).mono fun e w' ⟨h1, h2⟩ => ⟨by rw [h1, show dayZ (exLs 1) ⟨#[110, 117, 116]⟩ ⟨#[98]⟩ = 100001 from by decide +kernel], h2⟩)
  have huh := Try.underlying37
  have HSH : Hid (∀ a : Hs, (Try.prog.info? 37).map (·.size) = some a.cells.size) := Lib.hid (fun a => by kernel_rfl)
  go_enter Try.func9, Try.ntmps9
  go_wp2_with fail
  refine (small_any w).mono ?_
  rintro e w1 ⟨p, q, rfl, ht, hb1⟩
  have B1 := Lib.hid (hb1.alloc hb1.size (.cells (exH p q).cells 37))
  have HT1 := Lib.hid (ht.below ((Below.refl w1.heap.size w1).alloc (Nat.le_refl _) (.cells (exH p q).cells 37)))
  have HH1 : Hid ((w1.alloc (.cells (exH p q).cells 37)).heap[w1.heap.size]? = some (.cells (exH p q).cells 37 (0, 0))) := Lib.hid (heap_alloc_new _ _)
  clear ht hb1
  have HTB : Hid (∀ W, Below (w1.alloc (.cells (exH p q).cells 37)).heap.size (w1.alloc (.cells (exH p q).cells 37)) W → HT (exH p q) exLs W ∧ W.heap[w1.heap.size]? = some (.cells (exH p q).cells 37 (0, 0)) ∧ Below w.heap.size w W) := Lib.hid (fun W hW => ⟨HT1.out.below hW, (hW.block _ (lt_of_block HH1.out)).trans HH1.out, B1.out.trans (hW.mono B1.out.size)⟩)
  have BN := Lib.hid (Below.refl (w1.alloc (.cells (exH p q).cells 37)).heap.size (w1.alloc (.cells (exH p q).cells 37)))
  have hx : (exH p q).cells = #[.slice (some ⟨p, 0, none⟩) 1 1, .slice (some ⟨q, 0, none⟩) 1 1, .slice none 0 0, .slice none 0 0, .slice none 0 0, .slice none 0 0, .slice none 0 0, .slice none 0 0, .slice none 0 0, .slice none 0 0, .slice none 0 0, .slice none 0 0, .slice none 0 0, .slice none 0 0, .int .i64 0] := rfl
  rw [hx]
  clear hx
  go_wp2_with (first
    | (refine wpList_load_row rfl 37 (.tmp 1) rfl w1.heap.size rfl (exH p q).cells _ _ _ HH1.out huh rfl (HSH.out _) ?_)
    | fail)
  refine (F1.out p q _ (HTB.out _ BN.out).1).mono ?_
  rintro e wn ⟨rfl, hbn⟩
  have BN := Lib.hid (BN.out.trans (hbn.mono BN.out.size))
  have HHN := Lib.hid (HTB.out _ BN.out).2.1
  clear hbn
  go_wp2_with (first
    | (refine BigFrame.wpList_want (by kernel_rfl) (fun K hK => Go.wp_load_mid 37 (.tmp 1) rfl w1.heap.size 0 rfl (exH p q).cells.toList _ (range_row0 HHN.out) huh rfl (HSH.out _) (hK _ _ ?_)); clear hK K)
    | fail)
  refine (F2.out p q _ (HTB.out _ BN.out).1).mono ?_
  rintro e wn ⟨rfl, hbn⟩
  have BN := Lib.hid (BN.out.trans (hbn.mono BN.out.size))
  have HHN := Lib.hid (HTB.out _ BN.out).2.1
  clear hbn
  go_wp2_with (first
    | (refine BigFrame.wpList_want (by kernel_rfl) (fun K hK => Go.wp_load_mid 37 (.tmp 1) rfl w1.heap.size 0 rfl (exH p q).cells.toList _ (range_row0 HHN.out) huh rfl (HSH.out _) (hK _ _ ?_)); clear hK K)
    | fail)
  refine (F3.out p q _ (HTB.out _ BN.out).1).mono ?_
  rintro e wn ⟨rfl, hbn⟩
  have BN := Lib.hid (BN.out.trans (hbn.mono BN.out.size))
  have HHN := Lib.hid (HTB.out _ BN.out).2.1
  clear hbn
  go_wp2_with (first
    | (refine BigFrame.wpList_want (by kernel_rfl) (fun K hK => Go.wp_load_mid 37 (.tmp 1) rfl w1.heap.size 0 rfl (exH p q).cells.toList _ (range_row0 HHN.out) huh rfl (HSH.out _) (hK _ _ ?_)); clear hK K)
    | fail)
  refine (D1.out p q _ (HTB.out _ BN.out).1).mono ?_
  rintro e wn ⟨rfl, hbn⟩
  have BN := Lib.hid (BN.out.trans (hbn.mono BN.out.size))
  have HHN := Lib.hid (HTB.out _ BN.out).2.1
  clear hbn
  go_wp2_with (first
    | (refine BigFrame.wpList_want (by kernel_rfl) (fun K hK => Go.wp_load_mid 37 (.tmp 1) rfl w1.heap.size 0 rfl (exH p q).cells.toList _ (range_row0 HHN.out) huh rfl (HSH.out _) (hK _ _ ?_)); clear hK K)
    | fail)
  refine (D2.out p q _ (HTB.out _ BN.out).1).mono ?_
  rintro e wn ⟨rfl, hbn⟩
  have BN := Lib.hid (BN.out.trans (hbn.mono BN.out.size))
  have HHN := Lib.hid (HTB.out _ BN.out).2.1
  clear hbn
  go_wp2_with (first
    | (refine BigFrame.wpList_want (by kernel_rfl) (fun K hK => Go.wp_load_mid 37 (.tmp 1) rfl w1.heap.size 0 rfl (exH p q).cells.toList _ (range_row0 HHN.out) huh rfl (HSH.out _) (hK _ _ ?_)); clear hK K)
    | fail)
  go_ret
  exact ⟨rfl, (HTB.out _ BN.out).2.2⟩
end Go.Proofs.Ythliomckpfeekaa
