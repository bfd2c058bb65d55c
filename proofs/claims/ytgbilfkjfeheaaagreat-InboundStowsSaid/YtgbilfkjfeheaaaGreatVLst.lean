/-
 CONTRACT of the table's Keep, for things. (By wip/tools/gen_keep.py.)
 CONTRACTS of the code's closures: does a rule speak of an item; is a bin a shelf of a zone and a site.
 CONTRACTS of the code's rulesFor and shelves: those that are taken, in their order. (By wip/tools/gen_vlists.py.)
 PLAIN: what the sorted lists tell of where something is stowed.
 CONTRACT of the code's Suggest.
 (By wip/tools/merge.py.)
-/
import Derived.Test.YtgbilfkjfeheaaaGreatJCon
import Derived.Test.YtgbilfkjfeheaaaGreatKTR
import Derived.Test.YtgbilfkjfeheaaaGreatKP
import Derived.Test.YtgbilfkjfeheaaaGreatKF
import Derived.Test.YtgbilfkjfeheaaaGreatGT
import Derived.Test.YtgbilfkjfeheaaaGreatVOrd
import Derived.Test.YtgbilfkjfeheaaaGreatVSrtB
namespace Go.Proofs.YtgbilfkjfeheaaaGreat
set_option linter.unusedVariables false
open Go.RowKit

/-- The call hands back a new list: L. -/
def Fresh (T : TypeId) (sz : Nat) (w : World) (L : List (List Value)) (e : Ending) (w' : World) : Prop :=
 ∃ A n c, n = L.length ∧ e = .returned (.slice A n c) ∧ w'.ownsRow w.heap.size T sz (.slice A n c) n L.flatten ∧ Below w.heap.size w w'
theorem filt_le (f : List Value → Bool) (L : List (List Value)) (k : Nat) : ((L.take k).filter f).length ≤ k := Nat.le_trans (List.length_filter_le _ _) (List.length_take_le _ _)
set_option maxRecDepth 100000 in
set_option maxHeartbeats 1600000 in
theorem keepRule (A : Option Addr) (n c K : Nat) (cap : Array Value) (f : List Value → Bool) (L : List (List Value)) (w : World) (hn : n = L.length) (hn6 : n ≤ 100000) (hL : Things kRule L)
 (hr : Rd w w.heap.size A L.flatten) (hT : TellsF kRule w K cap f) :
 Calls Tryz.prog 164 #[.slice A n c, .func (.func K) #[] cap] w (Fresh 98 3 w (L.filter f)) := by
 obtain ⟨i0, z0, hi0, hz0, hz1, hz2, hz3⟩ := info_thing (P := Tryz.prog) (T := 98) (sz := 3) (by kernel_rfl)
 have hby : ∀ x, x ≤ 1000000 → x * i0.bytes ≤ 140737488355328 := fun x hx => Nat.le_trans (Nat.mul_le_mul hx hz3) (by decide)
 have HBY := Lib.hid hby
 have HN := Lib.hid hn
 have HR := Lib.hid hr
 have HT := Lib.hid hT
 have HL := Lib.hid hL
 have HLE := Lib.hid (filt_le f L)
 have hk : kRule.length = 3 := by decide
 have hu := Tryz.underlying98
 have HSZ : Hid (∀ y, Fits kRule y → (Tryz.prog.info? 98).map (·.size) = some y.toArray.size) := Lib.hid (fun y hy => by rw [show (Tryz.prog.info? 98).map (·.size) = some 3 from by kernel_rfl, List.size_toArray, hy.length]; rfl)
 clear hn hr hT hL hby
 go_enter Tryz.func164, Tryz.ntmps164
 go_wp2_with fail
 go_loopw [5, 10] (fun v i wr => ∃ (k m c' : Nat) (A' : Option Addr), k ≤ n ∧ i = .int .i64 (k : Int) ∧ m ≤ k ∧ v = .slice A' m c' ∧ Hid (m = ((L.take k).filter f).length) ∧ Hid (wr.ownsRow w.heap.size 98 3 (.slice A' m c') m ((L.take k).filter f).flatten) ∧ Hid (Below w.heap.size w wr)) (fun _ i _ => n - (intOf i).toNat)
 case atStart => exact ⟨0, 0, 0, none, by omega, rfl, by omega, rfl, Lib.hid (by simp), Lib.hid (by simpa using World.ownsRow_nil _ _ _ _), Lib.hid (Below.refl _ _)⟩
 case round =>
  obtain ⟨k, m, c', A', hkn, rfl, hmk, rfl, hm, hown, hbel⟩ := hrel
  by_cases hlt : k < n
  · have hl : k < L.length := by rw [← HN.out]; exact hlt
    obtain ⟨b, off, rfl, hb, hc⟩ := HR.out.thing HL.out (by rw [hk]; decide) hl
    have fx := HL.out _ (List.getElem_mem hl)
    have r1 := rangeAt_below (hc k hl) hb hbel.out
    rw [hk] at r1
    have hlb : b < wr.heap.size := Nat.lt_of_lt_of_le hb hbel.out.size
    have h1 : (0 : Int) ≤ (k : Int) := by omega
    have h2 : (k : Int) < (n : Int) := by omega
    have hsu : (L.take (k + 1)).filter f = (L.take k).filter f ++ (if f L[k] = true then [L[k]] else []) := by
     rw [List.take_succ_eq_append_getElem hl, List.filter_append]
     by_cases e : f L[k] = true <;> simp [e]
    obtain ⟨x, hx⟩ : ∃ x, L[k] = x := ⟨_, rfl⟩
    rw [hx] at fx r1 hsu
    have HX := Lib.hid hx
    have HF := Lib.hid fx
    have HR1 := Lib.hid r1
    have HIX : Hid ((Tryz.prog.info? 98).map (·.size) = some x.length) := Lib.hid (by have := HSZ.out x fx; rwa [List.size_toArray] at this)
    have HW2 : Hid (Below w.heap.size w (wr.alloc (.cells #[.string ⟨#[]⟩, .string ⟨#[]⟩, .int .i64 0] 98))) := Lib.hid (hbel.out.alloc hbel.out.size _)
    have HBX : Hid ((wr.alloc (.cells #[.string ⟨#[]⟩, .string ⟨#[]⟩, .int .i64 0] 98)).heap[wr.heap.size]? = some (.cells #[.string ⟨#[]⟩, .string ⟨#[]⟩, .int .i64 0] 98 (0, 0))) := Lib.hid (heap_alloc_new _ _)
    have HSRW : Hid (Below wr.heap.size wr ((wr.alloc (.cells #[.string ⟨#[]⟩, .string ⟨#[]⟩, .int .i64 0] 98)).setRow wr.heap.size x.toArray)) := Lib.hid (setRow_below ((Below.refl _ _).alloc (Nat.le_refl _) _) (Nat.le_refl _) _)
    have HSR : Hid (Below w.heap.size w ((wr.alloc (.cells #[.string ⟨#[]⟩, .string ⟨#[]⟩, .int .i64 0] 98)).setRow wr.heap.size x.toArray)) := Lib.hid (hbel.out.trans (HSRW.out.mono hbel.out.size))
    have HRX : Hid (((wr.alloc (.cells #[.string ⟨#[]⟩, .string ⟨#[]⟩, .int .i64 0] 98)).setRow wr.heap.size x.toArray).heap[wr.heap.size]? = some (.cells x.toArray 98 (0, 0))) := Lib.hid (setRow_heap _ _ _ _ _ _ HBX.out)
    have HO : Hid ((#[.string ⟨#[]⟩, .string ⟨#[]⟩, .int .i64 0] : Array Value).size = x.toArray.size) := Lib.hid (by rw [List.size_toArray, List.size_toArray, HF.out.length]; rfl)
    have HOC : Hid (x.toArray.all (·.oneCell') = true) := Lib.hid (all_oneCell_toArray (fits_one HF.out))
    have HXL : Hid (x.length = 3) := Lib.hid HF.out.length
    have HE1 := Lib.hid (fits_one HF.out)
    have hle := HLE.out (k + 1)
    clear hc r1 hx fx hb
    cases hf : f x with
    | true =>
     rw [if_pos hf] at hsu
     have HSU := Lib.hid hsu
     have HFX := Lib.hid hf
     clear hf hsu hle
     go_wp2_with (first
      | (refine wpList_load_mid rfl 98 (.tmp 12) rfl b (off + k * 3) rfl x _ HR1.out hu rfl HIX.out ?_)
      | (refine wpList_store_row rfl 98 (.tmp 7) (.tmp 13) rfl wr.heap.size x.toArray rfl rfl _ _ HBX.out (HSZ.out _ HF.out) HO.out HOC.out ?_)
      | (refine wpList_load_row rfl 98 (.tmp 7) rfl wr.heap.size rfl _ _ _ _ HRX.out hu rfl (HSZ.out _ HF.out) ?_)
      | fail)
     refine (holdsRule K cap f x _ (HT.out.later HSR.out) HF.out).mono ?_
     rintro e w1 ⟨rfl, hb1⟩
     have B1 := Lib.hid (HSR.out.trans (hb1.mono HSR.out.size))
     have HOW1 := Lib.hid (own_below (own_below hown.out HSRW.out) (hb1.mono (by simp)))
     have HRX1 := Lib.hid ((hb1.block wr.heap.size (lt_of_block HRX.out)).trans HRX.out)
     clear hb1
     have hf := HFX.out
     have HG1 : Hid (w.heap.size ≤ (w1.alloc (.cells x.toArray 98)).heap.size) := Lib.hid (by have := B1.out.size; simp; omega)
     go_wp2_with (first
      | (refine wpList_load_row rfl 98 (.tmp 7) rfl wr.heap.size rfl _ _ _ _ HRX1.out hu rfl (HSZ.out _ HF.out) ?_)
      | (refine wpList_buildOne rfl _ 98 _ rfl w1.heap.size rfl _ rfl i0 z0 3 Tryz.underlying27 hi0 hz0 hz1 (by decide) (by decide) x (by rfl) HXL.out ?_)
      | (at_builtin; refine wpList_app rfl (.tmp 17) (.tmp 19) _ rfl w.heap.size 98 i0 z0 3 i0.bytes Tryz.underlying27 hi0 hz0 hz1 rfl hz2 (by decide) A' m c' _ rfl (HOW1.out.alloc _) (w1.heap.size + 1) (some ⟨w1.heap.size, 0, none⟩) 1 1 x rfl (by rw [HXL.out]) (rd_one w1 x _) HE1.out (by simp only [maxLen]; omega) (HBY.out _ (by omega)) HG1.out ?_; intro A5 c5 w4 hown4 hb4; have HO4 := Lib.hid hown4; have HB4 := Lib.hid ((B1.out.alloc B1.out.size _).trans hb4); clear hown4 hb4)
      | fail)
     go_roundw
     case rel => exact ⟨k + 1, m + 1, c5, A5, by omega, by go_num, by omega, rfl, Lib.hid (by rw [HSU.out, List.length_append, ← hm.out]; rfl), Lib.hid (by rw [HSU.out, List.flatten_append]; simpa using HO4.out), HB4⟩
     case measure => simp [intOf]; omega
    | false =>
     rw [if_neg (by rw [hf]; simp), List.append_nil] at hsu
     have HSU := Lib.hid hsu
     have HFX := Lib.hid hf
     clear hf hsu hle
     go_wp2_with (first
      | (refine wpList_load_mid rfl 98 (.tmp 12) rfl b (off + k * 3) rfl x _ HR1.out hu rfl HIX.out ?_)
      | (refine wpList_store_row rfl 98 (.tmp 7) (.tmp 13) rfl wr.heap.size x.toArray rfl rfl _ _ HBX.out (HSZ.out _ HF.out) HO.out HOC.out ?_)
      | (refine wpList_load_row rfl 98 (.tmp 7) rfl wr.heap.size rfl _ _ _ _ HRX.out hu rfl (HSZ.out _ HF.out) ?_)
      | fail)
     refine (holdsRule K cap f x _ (HT.out.later HSR.out) HF.out).mono ?_
     rintro e w1 ⟨rfl, hb1⟩
     have B1 := Lib.hid (HSR.out.trans (hb1.mono HSR.out.size))
     have HOW1 := Lib.hid (own_below (own_below hown.out HSRW.out) (hb1.mono (by simp)))
     have HRX1 := Lib.hid ((hb1.block wr.heap.size (lt_of_block HRX.out)).trans HRX.out)
     clear hb1
     have hf := HFX.out
     go_wp2_with fail
     go_roundw
     case rel => exact ⟨k + 1, m, c', A', by omega, by go_num, by omega, rfl, Lib.hid (by rw [HSU.out]; exact hm.out), Lib.hid (by rw [HSU.out]; exact HOW1.out), B1⟩
     case measure => simp [intOf]; omega
  · have ht : L.take k = L := List.take_of_length_le (by rw [← HN.out]; omega)
    rw [ht] at hown hm
    clear ht
    go_wp2_with fail
    go_ret
    exact ⟨A', m, c', hm.out, rfl, hown.out, hbel.out⟩
set_option maxRecDepth 100000 in
set_option maxHeartbeats 1600000 in
theorem keepBin (A : Option Addr) (n c K : Nat) (cap : Array Value) (f : List Value → Bool) (L : List (List Value)) (w : World) (hn : n = L.length) (hn6 : n ≤ 100000) (hL : Things kBin L)
 (hr : Rd w w.heap.size A L.flatten) (hT : TellsF kBin w K cap f) :
 Calls Tryz.prog 170 #[.slice A n c, .func (.func K) #[] cap] w (Fresh 64 8 w (L.filter f)) := by
 obtain ⟨i0, z0, hi0, hz0, hz1, hz2, hz3⟩ := info_thing (P := Tryz.prog) (T := 64) (sz := 8) (by kernel_rfl)
 have hby : ∀ x, x ≤ 1000000 → x * i0.bytes ≤ 140737488355328 := fun x hx => Nat.le_trans (Nat.mul_le_mul hx hz3) (by decide)
 have HBY := Lib.hid hby
 have HN := Lib.hid hn
 have HR := Lib.hid hr
 have HT := Lib.hid hT
 have HL := Lib.hid hL
 have HLE := Lib.hid (filt_le f L)
 have hk : kBin.length = 8 := by decide
 have hu := Tryz.underlying64
 have HSZ : Hid (∀ y, Fits kBin y → (Tryz.prog.info? 64).map (·.size) = some y.toArray.size) := Lib.hid (fun y hy => by rw [show (Tryz.prog.info? 64).map (·.size) = some 8 from by kernel_rfl, List.size_toArray, hy.length]; rfl)
 clear hn hr hT hL hby
 go_enter Tryz.func170, Tryz.ntmps170
 go_wp2_with fail
 go_loopw [5, 10] (fun v i wr => ∃ (k m c' : Nat) (A' : Option Addr), k ≤ n ∧ i = .int .i64 (k : Int) ∧ m ≤ k ∧ v = .slice A' m c' ∧ Hid (m = ((L.take k).filter f).length) ∧ Hid (wr.ownsRow w.heap.size 64 8 (.slice A' m c') m ((L.take k).filter f).flatten) ∧ Hid (Below w.heap.size w wr)) (fun _ i _ => n - (intOf i).toNat)
 case atStart => exact ⟨0, 0, 0, none, by omega, rfl, by omega, rfl, Lib.hid (by simp), Lib.hid (by simpa using World.ownsRow_nil _ _ _ _), Lib.hid (Below.refl _ _)⟩
 case round =>
  obtain ⟨k, m, c', A', hkn, rfl, hmk, rfl, hm, hown, hbel⟩ := hrel
  by_cases hlt : k < n
  · have hl : k < L.length := by rw [← HN.out]; exact hlt
    obtain ⟨b, off, rfl, hb, hc⟩ := HR.out.thing HL.out (by rw [hk]; decide) hl
    have fx := HL.out _ (List.getElem_mem hl)
    have r1 := rangeAt_below (hc k hl) hb hbel.out
    rw [hk] at r1
    have hlb : b < wr.heap.size := Nat.lt_of_lt_of_le hb hbel.out.size
    have h1 : (0 : Int) ≤ (k : Int) := by omega
    have h2 : (k : Int) < (n : Int) := by omega
    have hsu : (L.take (k + 1)).filter f = (L.take k).filter f ++ (if f L[k] = true then [L[k]] else []) := by
     rw [List.take_succ_eq_append_getElem hl, List.filter_append]
     by_cases e : f L[k] = true <;> simp [e]
    obtain ⟨x, hx⟩ : ∃ x, L[k] = x := ⟨_, rfl⟩
    rw [hx] at fx r1 hsu
    have HX := Lib.hid hx
    have HF := Lib.hid fx
    have HR1 := Lib.hid r1
    have HIX : Hid ((Tryz.prog.info? 64).map (·.size) = some x.length) := Lib.hid (by have := HSZ.out x fx; rwa [List.size_toArray] at this)
    have HW2 : Hid (Below w.heap.size w (wr.alloc (.cells #[.string ⟨#[]⟩, .string ⟨#[]⟩, .int .i64 0, .int .i64 0, .int .i64 0, .int .i64 0, .int .i64 0, .bool false] 64))) := Lib.hid (hbel.out.alloc hbel.out.size _)
    have HBX : Hid ((wr.alloc (.cells #[.string ⟨#[]⟩, .string ⟨#[]⟩, .int .i64 0, .int .i64 0, .int .i64 0, .int .i64 0, .int .i64 0, .bool false] 64)).heap[wr.heap.size]? = some (.cells #[.string ⟨#[]⟩, .string ⟨#[]⟩, .int .i64 0, .int .i64 0, .int .i64 0, .int .i64 0, .int .i64 0, .bool false] 64 (0, 0))) := Lib.hid (heap_alloc_new _ _)
    have HSRW : Hid (Below wr.heap.size wr ((wr.alloc (.cells #[.string ⟨#[]⟩, .string ⟨#[]⟩, .int .i64 0, .int .i64 0, .int .i64 0, .int .i64 0, .int .i64 0, .bool false] 64)).setRow wr.heap.size x.toArray)) := Lib.hid (setRow_below ((Below.refl _ _).alloc (Nat.le_refl _) _) (Nat.le_refl _) _)
    have HSR : Hid (Below w.heap.size w ((wr.alloc (.cells #[.string ⟨#[]⟩, .string ⟨#[]⟩, .int .i64 0, .int .i64 0, .int .i64 0, .int .i64 0, .int .i64 0, .bool false] 64)).setRow wr.heap.size x.toArray)) := Lib.hid (hbel.out.trans (HSRW.out.mono hbel.out.size))
    have HRX : Hid (((wr.alloc (.cells #[.string ⟨#[]⟩, .string ⟨#[]⟩, .int .i64 0, .int .i64 0, .int .i64 0, .int .i64 0, .int .i64 0, .bool false] 64)).setRow wr.heap.size x.toArray).heap[wr.heap.size]? = some (.cells x.toArray 64 (0, 0))) := Lib.hid (setRow_heap _ _ _ _ _ _ HBX.out)
    have HO : Hid ((#[.string ⟨#[]⟩, .string ⟨#[]⟩, .int .i64 0, .int .i64 0, .int .i64 0, .int .i64 0, .int .i64 0, .bool false] : Array Value).size = x.toArray.size) := Lib.hid (by rw [List.size_toArray, List.size_toArray, HF.out.length]; rfl)
    have HOC : Hid (x.toArray.all (·.oneCell') = true) := Lib.hid (all_oneCell_toArray (fits_one HF.out))
    have HXL : Hid (x.length = 8) := Lib.hid HF.out.length
    have HE1 := Lib.hid (fits_one HF.out)
    have hle := HLE.out (k + 1)
    clear hc r1 hx fx hb
    cases hf : f x with
    | true =>
     rw [if_pos hf] at hsu
     have HSU := Lib.hid hsu
     have HFX := Lib.hid hf
     clear hf hsu hle
     go_wp2_with (first
      | (refine wpList_load_mid rfl 64 (.tmp 12) rfl b (off + k * 8) rfl x _ HR1.out hu rfl HIX.out ?_)
      | (refine wpList_store_row rfl 64 (.tmp 7) (.tmp 13) rfl wr.heap.size x.toArray rfl rfl _ _ HBX.out (HSZ.out _ HF.out) HO.out HOC.out ?_)
      | (refine wpList_load_row rfl 64 (.tmp 7) rfl wr.heap.size rfl _ _ _ _ HRX.out hu rfl (HSZ.out _ HF.out) ?_)
      | fail)
     refine (holdsBin K cap f x _ (HT.out.later HSR.out) HF.out).mono ?_
     rintro e w1 ⟨rfl, hb1⟩
     have B1 := Lib.hid (HSR.out.trans (hb1.mono HSR.out.size))
     have HOW1 := Lib.hid (own_below (own_below hown.out HSRW.out) (hb1.mono (by simp)))
     have HRX1 := Lib.hid ((hb1.block wr.heap.size (lt_of_block HRX.out)).trans HRX.out)
     clear hb1
     have hf := HFX.out
     have HG1 : Hid (w.heap.size ≤ (w1.alloc (.cells x.toArray 64)).heap.size) := Lib.hid (by have := B1.out.size; simp; omega)
     go_wp2_with (first
      | (refine wpList_load_row rfl 64 (.tmp 7) rfl wr.heap.size rfl _ _ _ _ HRX1.out hu rfl (HSZ.out _ HF.out) ?_)
      | (refine wpList_buildOne rfl _ 64 _ rfl w1.heap.size rfl _ rfl i0 z0 8 Tryz.underlying25 hi0 hz0 hz1 (by decide) (by decide) x (by rfl) HXL.out ?_)
      | (at_builtin; refine wpList_app rfl (.tmp 17) (.tmp 19) _ rfl w.heap.size 64 i0 z0 8 i0.bytes Tryz.underlying25 hi0 hz0 hz1 rfl hz2 (by decide) A' m c' _ rfl (HOW1.out.alloc _) (w1.heap.size + 1) (some ⟨w1.heap.size, 0, none⟩) 1 1 x rfl (by rw [HXL.out]) (rd_one w1 x _) HE1.out (by simp only [maxLen]; omega) (HBY.out _ (by omega)) HG1.out ?_; intro A5 c5 w4 hown4 hb4; have HO4 := Lib.hid hown4; have HB4 := Lib.hid ((B1.out.alloc B1.out.size _).trans hb4); clear hown4 hb4)
      | fail)
     go_roundw
     case rel => exact ⟨k + 1, m + 1, c5, A5, by omega, by go_num, by omega, rfl, Lib.hid (by rw [HSU.out, List.length_append, ← hm.out]; rfl), Lib.hid (by rw [HSU.out, List.flatten_append]; simpa using HO4.out), HB4⟩
     case measure => simp [intOf]; omega
    | false =>
     rw [if_neg (by rw [hf]; simp), List.append_nil] at hsu
     have HSU := Lib.hid hsu
     have HFX := Lib.hid hf
     clear hf hsu hle
     go_wp2_with (first
      | (refine wpList_load_mid rfl 64 (.tmp 12) rfl b (off + k * 8) rfl x _ HR1.out hu rfl HIX.out ?_)
      | (refine wpList_store_row rfl 64 (.tmp 7) (.tmp 13) rfl wr.heap.size x.toArray rfl rfl _ _ HBX.out (HSZ.out _ HF.out) HO.out HOC.out ?_)
      | (refine wpList_load_row rfl 64 (.tmp 7) rfl wr.heap.size rfl _ _ _ _ HRX.out hu rfl (HSZ.out _ HF.out) ?_)
      | fail)
     refine (holdsBin K cap f x _ (HT.out.later HSR.out) HF.out).mono ?_
     rintro e w1 ⟨rfl, hb1⟩
     have B1 := Lib.hid (HSR.out.trans (hb1.mono HSR.out.size))
     have HOW1 := Lib.hid (own_below (own_below hown.out HSRW.out) (hb1.mono (by simp)))
     have HRX1 := Lib.hid ((hb1.block wr.heap.size (lt_of_block HRX.out)).trans HRX.out)
     clear hb1
     have hf := HFX.out
     go_wp2_with fail
     go_roundw
     case rel => exact ⟨k + 1, m, c', A', by omega, by go_num, by omega, rfl, Lib.hid (by rw [HSU.out]; exact hm.out), Lib.hid (by rw [HSU.out]; exact HOW1.out), B1⟩
     case measure => simp [intOf]; omega
  · have ht : L.take k = L := List.take_of_length_le (by rw [← HN.out]; omega)
    rw [ht] at hown hm
    clear ht
    go_wp2_with fail
    go_ret
    exact ⟨A', m, c', hm.out, rfl, hown.out, hbel.out⟩
end Go.Proofs.YtgbilfkjfeheaaaGreat

namespace Go.Proofs.YtgbilfkjfeheaaaGreat
set_option linter.unusedVariables false
open Go.RowKit

set_option maxRecDepth 100000 in
theorem cspeak_any (gi : Nat) (item r0 r1 : ByteArray) (r2 : Int) (w : World) (hc : w.cell? ⟨gi, 0, none⟩ = some (.string item)) (hl : gi < w.heap.size) : Calls Tryz.prog 165 #[.agg #[.string r0, .string r1, .int .i64 r2], .pointer (some ⟨gi, 0, none⟩)] w fun e w' => e = .returned (.bool (speaks item (Rl.mk r0 r1 r2))) ∧ Below w.heap.size w w' := by
 obtain ⟨v, hv⟩ : ∃ v, speaks item (Rl.mk r0 r1 r2) = v := ⟨_, rfl⟩
 have HV : Hid (v = (r0.toList.isEmpty || r0.toList == item.toList)) := Lib.hid (by rw [← hv]; rfl)
 rw [hv]
 have HB : Hid (Below w.heap.size w (w.alloc (.cells #[.string r0, .string r1, .int .i64 r2] 98))) := Lib.hid ((Below.refl _ _).alloc (Nat.le_refl _) _)
 have hc2 : (w.alloc (.cells #[.string r0, .string r1, .int .i64 r2] 98)).cell? ⟨gi, 0, none⟩ = some (.string item) := (HB.out.cell (p := ⟨gi, 0, none⟩) hl).trans hc
 clear hv
 cases he : (r0.toList == item.toList) with
 | true =>
  have HE : Hid (v = true) := Lib.hid (by rw [HV.out, he]; simp)
  clear HV
  go_enter Tryz.func165, Tryz.ntmps165
  go_wp2_with fail
  go_ret
  exact ⟨by rw [HE.out]; rfl, HB.out⟩
 | false =>
  cases h0 : r0.toList.isEmpty with
  | true =>
   have HE : Hid (v = true) := Lib.hid (by rw [HV.out, h0]; rfl)
   clear HV
   go_enter Tryz.func165, Tryz.ntmps165
   go_wp2_with fail
   go_ret
   exact ⟨by rw [HE.out]; rfl, HB.out⟩
  | false =>
   have HE : Hid (v = false) := Lib.hid (by rw [HV.out, h0, he]; rfl)
   clear HV
   go_enter Tryz.func165, Tryz.ntmps165
   go_wp2_with fail
   go_ret
   exact ⟨by rw [HE.out]; rfl, HB.out⟩
/-- Is a bin a shelf of that zone and site? -/
def isShelf (LZ LB : List (List Value)) (zone site : ByteArray) (b : Bn) : Bool := b.kind == 1 && !b.frz && Pl.eqv b.zone zone && Pl.eqv (siteT LZ LB b.code) site
theorem takesB_shelf (LI LZ LB LQ : List (List Value)) (zone site item : ByteArray) (n : Int) (b : Bn) : takesB LI LZ LB LQ zone site item n b = (isShelf LZ LB zone site b && decide (roomE LI LB LQ b.code item n = 0)) := rfl
set_option maxRecDepth 100000 in
set_option maxHeartbeats 1600000 in
theorem cshelf_any (h : Hs) (L : Nat → List (List Value)) (gz gh gs : Nat) (zone site b0 b1 : ByteArray) (b2 b3 b4 b5 b6 : Int) (b7 : Bool) (w : World) (hz : w.cell? ⟨gz, 0, none⟩ = some (.string zone)) (hs : w.cell? ⟨gs, 0, none⟩ = some (.string site)) (hh : w.heap[gh]? = some (.cells h.cells 37 (0, 0))) (lz : gz < w.heap.size) (ls : gs < w.heap.size) (ht : HT h L w) :
 Calls Tryz.prog 171 #[.agg #[.string b0, .string b1, .int .i64 b2, .int .i64 b3, .int .i64 b4, .int .i64 b5, .int .i64 b6, .bool b7], .pointer (some ⟨gz, 0, none⟩), .pointer (some ⟨gh, 0, none⟩), .pointer (some ⟨gs, 0, none⟩)] w fun e w' => e = .returned (.bool (isShelf (L 2) (L 3) zone site (Bn.mk b0 b1 b2 b3 b4 b5 b6 b7))) ∧ Below w.heap.size w w' := by
 obtain ⟨v, hv⟩ : ∃ v, isShelf (L 2) (L 3) zone site (Bn.mk b0 b1 b2 b3 b4 b5 b6 b7) = v := ⟨_, rfl⟩
 obtain ⟨st, hst⟩ : ∃ st, siteT (L 2) (L 3) b0 = st := ⟨_, rfl⟩
 have HV : Hid (v = (b2 == 1 && !b7 && (b1.toList == zone.toList) && (st.toList == site.toList))) := Lib.hid (by rw [← hv, ← hst]; rfl)
 have HSI := Lib.hid (fun W (hW : Below w.heap.size w W) => csite_any h L b0 W (ht.below hW))
 rw [hst] at HSI
 rw [hv]
 clear hv hst
 obtain ⟨w1, hw1⟩ : ∃ W, W = w.alloc (.cells #[.string b0, .string b1, .int .i64 b2, .int .i64 b3, .int .i64 b4, .int .i64 b5, .int .i64 b6, .bool b7] 64) := ⟨_, rfl⟩
 have hb1 : Below w.heap.size w w1 := by rw [hw1]; exact (Below.refl _ _).alloc (Nat.le_refl _) _
 have hx1 : w1.heap[w.heap.size]? = some (.cells #[.string b0, .string b1, .int .i64 b2, .int .i64 b3, .int .i64 b4, .int .i64 b5, .int .i64 b6, .bool b7] 64 (0, 0)) := by rw [hw1]; exact heap_alloc_new _ _
 have hs1 : w.heap.size + 1 ≤ w1.heap.size := by rw [hw1]; simp
 have x0 : ∀ X : BW w1, X.W.cell? ⟨w.heap.size, 0, none⟩ = some (.string b0) := fun X => by rw [cell_of_block ((X.h.block _ (lt_of_block hx1)).trans hx1)]; rfl
 have x1 : ∀ X : BW w1, X.W.cell? ⟨w.heap.size, 1, none⟩ = some (.string b1) := fun X => by rw [cell_of_block ((X.h.block _ (lt_of_block hx1)).trans hx1)]; rfl
 have x2 : ∀ X : BW w1, X.W.cell? ⟨w.heap.size, 2, none⟩ = some (.int .i64 b2) := fun X => by rw [cell_of_block ((X.h.block _ (lt_of_block hx1)).trans hx1)]; rfl
 have x7 : ∀ X : BW w1, X.W.cell? ⟨w.heap.size, 7, none⟩ = some (.bool b7) := fun X => by rw [cell_of_block ((X.h.block _ (lt_of_block hx1)).trans hx1)]; rfl
 have xz : ∀ X : BW w1, X.W.cell? ⟨gz, 0, none⟩ = some (.string zone) := fun X => ((hb1.trans (X.h.mono hb1.size)).cell (p := ⟨gz, 0, none⟩) lz).trans hz
 have xs : ∀ X : BW w1, X.W.cell? ⟨gs, 0, none⟩ = some (.string site) := fun X => ((hb1.trans (X.h.mono hb1.size)).cell (p := ⟨gs, 0, none⟩) ls).trans hs
 have RH : Hid (∀ X : BW w1, X.W.heap[gh]? = some (.cells h.cells 37 (0, 0))) := Lib.hid (fun X => ((hb1.trans (X.h.mono hb1.size)).block _ (lt_of_block hh)).trans hh)
 have CS : Hid (∀ X : BW w1, Calls Tryz.prog 82 #[.agg h.cells, .string b0] X.W fun e w' => e = .returned (.string st) ∧ Below X.W.heap.size X.W w') := Lib.hid (fun X => HSI.out _ (hb1.trans (X.h.mono hb1.size)))
 have huh := Tryz.underlying37
 have HSHL : Hid (∀ a : Hs, (Tryz.prog.info? 37).map (·.size) = some a.cells.toList.length) := Lib.hid (fun a => by kernel_rfl)
 have B1 := Lib.hid hb1
 have HW1 := Lib.hid hw1
 clear hz hs hh ht hb1 hx1 hs1 hw1 HSI
 by_cases q1 : b2 = 1
 · subst q1
   have q1b : ((1 : Int) == 1) = true := rfl
   cases q2 : b7 with
   | true =>
    have HE : Hid (v = false) := Lib.hid (by rw [HV.out, q1b, q2]; rfl)
    clear HV
    subst q2
    go_enter Tryz.func171, Tryz.ntmps171
    go_wp2_with fail
    rw [← HW1.out]
    refine wp_grow w1 (by kernel_rfl) (by kernel_rfl) (Below.refl _ _) ?_
    simp only []
    iterate 23 go_big_quiet_step (fail)
    refine wpQuiet_nil ?_
    intro X
    go_wp2_with fail
    go_ret
    exact ⟨by rw [HE.out]; rfl, B1.out.trans (X.h.mono B1.out.size)⟩
   | false =>
    subst q2
    cases q3 : (b1.toList == zone.toList) with
    | false =>
     have HE : Hid (v = false) := Lib.hid (by rw [HV.out, q1b, q3]; rfl)
     clear HV
     go_enter Tryz.func171, Tryz.ntmps171
     go_wp2_with fail
     rw [← HW1.out]
     refine wp_grow w1 (by kernel_rfl) (by kernel_rfl) (Below.refl _ _) ?_
     simp only []
     iterate 23 go_big_quiet_step (fail)
     refine wpQuiet_nil ?_
     intro X
     go_wp2_with fail
     go_ret
     exact ⟨by rw [HE.out]; rfl, B1.out.trans (X.h.mono B1.out.size)⟩
    | true =>
     obtain ⟨k, hk⟩ : ∃ k, (st.toList == site.toList) = k := ⟨_, rfl⟩
     have HE : Hid (v = k) := Lib.hid (by rw [HV.out, q1b, q3, hk]; cases k <;> rfl)
     clear HV
     go_enter Tryz.func171, Tryz.ntmps171
     go_wp2_with fail
     rw [← HW1.out]
     refine wp_grow w1 (by kernel_rfl) (by kernel_rfl) (Below.refl _ _) ?_
     simp only []
     iterate 15 go_big_quiet_step (fail)
     refine BigFrame.wpQuiet_want (by kernel_rfl) (fun K hK => quiet_load_mid 37 (.tmp 2) rfl gh 0 rfl h.cells.toList _ (fun W ⟨X, hX⟩ => by rw [hX]; exact range_row0 (RH.out X)) huh rfl (HSHL.out _) (hK _ ?_))
     simp only [ax]
     iterate 2 go_big_quiet_step (fail)
     go_big_quiet_step (exact grow_call _ (CS.out _))
     iterate 4 go_big_quiet_step (fail)
     refine wpQuiet_nil ?_
     intro X
     go_wp2_with fail
     go_ret
     exact ⟨by rw [HE.out]; first | rfl | simp, B1.out.trans (X.h.mono B1.out.size)⟩
 · have q1b : (b2 == 1) = false := by simpa using q1
   have HE : Hid (v = false) := Lib.hid (by rw [HV.out, q1b]; rfl)
   clear HV
   go_enter Tryz.func171, Tryz.ntmps171
   go_wp2_with fail
   rw [← HW1.out]
   refine wp_grow w1 (by kernel_rfl) (by kernel_rfl) (Below.refl _ _) ?_
   simp only []
   iterate 23 go_big_quiet_step (fail)
   refine wpQuiet_nil ?_
   intro X
   go_wp2_with fail
   go_ret
   exact ⟨by rw [HE.out]; rfl, B1.out.trans (X.h.mono B1.out.size)⟩
end Go.Proofs.YtgbilfkjfeheaaaGreat

namespace Go.Proofs.YtgbilfkjfeheaaaGreat
set_option linter.unusedVariables false
open Go.RowKit

set_option maxRecDepth 100000 in
theorem inser0Rule (A : Option Addr) (c K : Nat) (w : World) : Calls Tryz.prog 208 #[.slice A 0 c, .int .i64 0, .int .i64 0, .func (.func K) #[] #[]] w fun e w' => e = .returned (.tuple #[]) ∧ w' = w := by
 go_enter Tryz.func208, Tryz.ntmps208
 go_wp2_with fail
 go_loopw [8] (fun iv wr => iv = .int .i64 1 ∧ Hid (wr = w)) (fun _ _ => 0)
 case atStart => exact ⟨rfl, Lib.hid rfl⟩
 case round =>
  obtain ⟨rfl, hwr⟩ := hrel
  go_wp2_with fail
  go_end0
  exact ⟨rfl, hwr.out⟩
set_option maxRecDepth 100000 in
theorem stab0Rule (A : Option Addr) (c K : Nat) (w : World) : Calls Tryz.prog 193 #[.slice A 0 c, .int .i64 0, .func (.func K) #[] #[]] w fun e w' => e = .returned (.tuple #[]) ∧ w' = w := by
 have HI := Lib.hid (inser0Rule A c K)
 go_enter Tryz.func193, Tryz.ntmps193
 go_wp2_with fail
 go_loopw [7, 8] (fun av bv wr => av = .int .i64 0 ∧ bv = .int .i64 20 ∧ Hid (wr = w)) (fun _ _ _ => 0)
 case atStart => exact ⟨rfl, rfl, Lib.hid rfl⟩
 case round =>
  obtain ⟨rfl, rfl, hwr⟩ := hrel
  go_wp2_with fail
  refine (HI.out _).mono ?_
  rintro e w1 ⟨rfl, hw1⟩
  have HW1 : Hid (w1 = w) := Lib.hid (hw1.trans hwr.out)
  clear hw1
  go_wp2_with fail
  go_loopw [6, 7, 8, 9] (fun sv av bv mv wr => sv = .int .i64 20 ∧ Hid (wr = w1)) (fun _ _ _ _ _ => 0)
  case atStart => exact ⟨rfl, Lib.hid rfl⟩
  case round =>
   obtain ⟨rfl, hwr2⟩ := hrel
   go_wp2_with fail
   go_end0
   exact ⟨rfl, hwr2.out.trans HW1.out⟩
set_option maxRecDepth 100000 in
theorem sort0Rule (A : Option Addr) (c K : Nat) (w : World) : Calls Tryz.prog 166 #[.slice A 0 c, .func (.func K) #[] #[]] w fun e w' => e = .returned (.tuple #[]) ∧ w' = w := by
 have HI := Lib.hid (stab0Rule A c K)
 go_enter Tryz.func166, Tryz.ntmps166
 go_wp2_with fail
 refine (HI.out _).mono ?_
 rintro e w1 ⟨rfl, hw1⟩
 have HW1 := Lib.hid hw1
 clear hw1
 go_wp2_with fail
 go_end0
 exact ⟨rfl, HW1.out⟩
/-- The sort of a new row, empty or not. -/
theorem sortAllRule (B n c K : Nat) (A : Option Addr) (ord : List Value → List Value → Int) (L : List (List Value)) (w : World) (hn : n = L.length) (hn6 : n ≤ 4000) (hM : Things kRule L) (hT : TellsC kRule K ord) (hW : Pl.Weak (lessO ord)) (ho : w.ownsRow B 98 3 (.slice A n c) n L.flatten) (hB : B ≤ w.heap.size) :
 Calls Tryz.prog 166 #[.slice A n c, .func (.func K) #[] #[]] w fun e w' => e = .returned (.tuple #[]) ∧ ∃ C, C.Perm L ∧ Pl.Srt (lessO ord) C ∧ w'.ownsRow B 98 3 (.slice A n c) n C.flatten ∧ Below B w w' := by
 rcases Nat.eq_zero_or_pos n with h0 | h0
 · have hL : L = [] := List.length_eq_zero_iff.1 (by omega)
   subst h0 hL
   exact (sort0Rule A c K w).mono (fun e w' ⟨he, hw⟩ => ⟨he, [], List.Perm.refl _, Pl.Srt.nil, by rw [hw]; exact ho, by rw [hw]; exact Below.refl _ _⟩)
 · obtain ⟨g, rfl⟩ := own_some ho h0
   exact sortRule B g n c K ord L w hn hn6 hM hT hW ho hB
set_option maxRecDepth 100000 in
theorem inser0Bin (A : Option Addr) (c K : Nat) (w : World) : Calls Tryz.prog 210 #[.slice A 0 c, .int .i64 0, .int .i64 0, .func (.func K) #[] #[]] w fun e w' => e = .returned (.tuple #[]) ∧ w' = w := by
 go_enter Tryz.func210, Tryz.ntmps210
 go_wp2_with fail
 go_loopw [8] (fun iv wr => iv = .int .i64 1 ∧ Hid (wr = w)) (fun _ _ => 0)
 case atStart => exact ⟨rfl, Lib.hid rfl⟩
 case round =>
  obtain ⟨rfl, hwr⟩ := hrel
  go_wp2_with fail
  go_end0
  exact ⟨rfl, hwr.out⟩
set_option maxRecDepth 100000 in
theorem stab0Bin (A : Option Addr) (c K : Nat) (w : World) : Calls Tryz.prog 195 #[.slice A 0 c, .int .i64 0, .func (.func K) #[] #[]] w fun e w' => e = .returned (.tuple #[]) ∧ w' = w := by
 have HI := Lib.hid (inser0Bin A c K)
 go_enter Tryz.func195, Tryz.ntmps195
 go_wp2_with fail
 go_loopw [7, 8] (fun av bv wr => av = .int .i64 0 ∧ bv = .int .i64 20 ∧ Hid (wr = w)) (fun _ _ _ => 0)
 case atStart => exact ⟨rfl, rfl, Lib.hid rfl⟩
 case round =>
  obtain ⟨rfl, rfl, hwr⟩ := hrel
  go_wp2_with fail
  refine (HI.out _).mono ?_
  rintro e w1 ⟨rfl, hw1⟩
  have HW1 : Hid (w1 = w) := Lib.hid (hw1.trans hwr.out)
  clear hw1
  go_wp2_with fail
  go_loopw [6, 7, 8, 9] (fun sv av bv mv wr => sv = .int .i64 20 ∧ Hid (wr = w1)) (fun _ _ _ _ _ => 0)
  case atStart => exact ⟨rfl, Lib.hid rfl⟩
  case round =>
   obtain ⟨rfl, hwr2⟩ := hrel
   go_wp2_with fail
   go_end0
   exact ⟨rfl, hwr2.out.trans HW1.out⟩
set_option maxRecDepth 100000 in
theorem sort0Bin (A : Option Addr) (c K : Nat) (w : World) : Calls Tryz.prog 172 #[.slice A 0 c, .func (.func K) #[] #[]] w fun e w' => e = .returned (.tuple #[]) ∧ w' = w := by
 have HI := Lib.hid (stab0Bin A c K)
 go_enter Tryz.func172, Tryz.ntmps172
 go_wp2_with fail
 refine (HI.out _).mono ?_
 rintro e w1 ⟨rfl, hw1⟩
 have HW1 := Lib.hid hw1
 clear hw1
 go_wp2_with fail
 go_end0
 exact ⟨rfl, HW1.out⟩
/-- The sort of a new row, empty or not. -/
theorem sortAllBin (B n c K : Nat) (A : Option Addr) (ord : List Value → List Value → Int) (L : List (List Value)) (w : World) (hn : n = L.length) (hn6 : n ≤ 4000) (hM : Things kBin L) (hT : TellsC kBin K ord) (hW : Pl.Weak (lessO ord)) (ho : w.ownsRow B 64 8 (.slice A n c) n L.flatten) (hB : B ≤ w.heap.size) :
 Calls Tryz.prog 172 #[.slice A n c, .func (.func K) #[] #[]] w fun e w' => e = .returned (.tuple #[]) ∧ ∃ C, C.Perm L ∧ Pl.Srt (lessO ord) C ∧ w'.ownsRow B 64 8 (.slice A n c) n C.flatten ∧ Below B w w' := by
 rcases Nat.eq_zero_or_pos n with h0 | h0
 · have hL : L = [] := List.length_eq_zero_iff.1 (by omega)
   subst h0 hL
   exact (sort0Bin A c K w).mono (fun e w' ⟨he, hw⟩ => ⟨he, [], List.Perm.refl _, Pl.Srt.nil, by rw [hw]; exact ho, by rw [hw]; exact Below.refl _ _⟩)
 · obtain ⟨g, rfl⟩ := own_some ho h0
   exact sortBin B g n c K ord L w hn hn6 hM hT hW ho hB
set_option maxRecDepth 100000 in
set_option maxHeartbeats 1600000 in
theorem crulesFor_any (h : Hs) (L : Nat → List (List Value)) (item : ByteArray) (w : World) (ht : HT h L w) (hn6 : h.n 5 ≤ 4000) :
 Calls Tryz.prog 120 #[.agg h.cells, .string item] w fun e w' => ∃ A n c C, n = C.length ∧ e = .returned (.slice A n c) ∧ C.Perm ((L 5).filter fun e => speaks item (rlOf e)) ∧ Pl.Srt (lessO ordAhead) C ∧ w'.ownsRow w.heap.size 98 3 (.slice A n c) n C.flatten ∧ Below w.heap.size w w' := by
 obtain ⟨hn, _, hL, hr⟩ := ht 5 (by decide)
 obtain ⟨W0, hW0⟩ : ∃ W, W = ((w.alloc (.cells h.cells 37)).alloc (.cells #[.string item] 9)) := ⟨_, rfl⟩
 have B0 : Hid (Below w.heap.size w W0) := Lib.hid (by rw [hW0]; exact ((Below.refl _ _).alloc (Nat.le_refl _) _).alloc (by simp <;> omega) _)
 have hs0 : W0.heap.size = w.heap.size + 2 := by rw [hW0]; simp
 have HX0 : Hid (W0.heap[w.heap.size]? = some (.cells h.cells 37 (0, 0))) := Lib.hid (by
  rw [hW0]
  have hq := heap_alloc_new w (.cells h.cells 37)
  exact (Below.heap_alloc _ _ _ (by simp <;> omega)).trans (by simpa using hq))
 have HX1 : Hid (W0.heap[w.heap.size + 1]? = some (.cells #[.string item] 9 (0, 0))) := Lib.hid (by
  rw [hW0]
  have hq := heap_alloc_new (w.alloc (.cells h.cells 37)) (.cells #[.string item] 9)
  exact by simpa using hq)
 have c5 : W0.cell? ⟨w.heap.size, 5, none⟩ = some (.slice (h.A 5) (h.n 5) (h.c 5)) := by rw [cell_of_block HX0.out]; rfl
 have l5 : w.heap.size < W0.heap.size := by omega
 have HTL : Hid (TellsF kRule W0 165 #[.pointer (some ⟨w.heap.size + 1, 0, none⟩)] (fun e => speaks item (rlOf e))) := Lib.hid ⟨fun args W => by kernel_rfl, fun W hW e he => by
  have hbw := B0.out.trans (hW.mono B0.out.size)
  have hx := rl_cells he
  have hx1 := (hW.block _ (lt_of_block HX1.out)).trans HX1.out
  have h1 := cspeak_any (w.heap.size + 1) item (rlOf e).item (rlOf e).zone (rlOf e).rank W (by rw [cell_of_block hx1]; rfl) (lt_of_block hx1)
  have h2 : e.toArray = #[.string (rlOf e).item, .string (rlOf e).zone, .int .i64 (rlOf e).rank] := by rw [hx]; rfl
  rw [← h2] at h1
  exact h1⟩
 have HK := Lib.hid (keepRule (h.A 5) (h.n 5) (h.c 5) _ _ _ (L 5) W0 hn (by omega) hL (hr.below B0.out |>.mono B0.out.size) HTL.out)
 have HL := Lib.hid hL
 have HLE : Hid (((L 5).filter fun e => speaks item (rlOf e)).length ≤ 4000) := Lib.hid (Nat.le_trans (List.length_filter_le _ _) (by omega))
 have hmf : ∀ (fn : Fn) (first cap : Array Value) (w : World), (Instr.makeFunc fn first cap).run Tryz.prog w = .ok (.func fn first cap) w := fun _ _ _ _ => rfl
 have HW0 := Lib.hid hW0
 clear hn hL hr ht hs0 hn6 hW0
 go_enter Tryz.func120, Tryz.ntmps120
 go_upto_region 1 with fail
 rw [← HW0.out]
 clear HW0
 go_wp2_with fail
 refine HK.out.mono ?_
 rintro e w1 ⟨A, n, c, hln, rfl, ho1, hb1⟩
 have hnl : n ≤ 4000 := by rw [hln]; exact HLE.out
 have HS := Lib.hid (sortAllRule w.heap.size n c 167 A ordAhead _ w1 hln hnl (fun x hx => HL.out x (List.mem_filter.1 hx).1) tellsA weak_ahead (own_down ho1 B0.out.size) (Nat.le_trans B0.out.size hb1.size))
 have HLN := Lib.hid hln
 have HB1 := Lib.hid (B0.out.trans (hb1.mono B0.out.size))
 clear hln hnl ho1 hb1 HK c5 l5
 go_wp2_with fail
 refine HS.out.mono ?_
 rintro e w2 ⟨rfl, C, hp, hs, ho2, hb2⟩
 have HP := Lib.hid (And.intro hp hs)
 have HO2 := Lib.hid ho2
 have HB2 := Lib.hid (HB1.out.trans hb2)
 clear hp hs ho2 hb2
 go_wp2_with fail
 go_ret
 exact ⟨A, n, c, C, HLN.out.trans HP.out.1.length_eq.symm, rfl, HP.out.1, HP.out.2, HO2.out, HB2.out⟩
set_option maxRecDepth 100000 in
set_option maxHeartbeats 1600000 in
theorem cshelves_any (h : Hs) (L : Nat → List (List Value)) (zone site : ByteArray) (w : World) (ht : HT h L w) (hn6 : h.n 3 ≤ 4000) :
 Calls Tryz.prog 121 #[.agg h.cells, .string zone, .string site] w fun e w' => ∃ A n c C, n = C.length ∧ e = .returned (.slice A n c) ∧ C.Perm ((L 3).filter fun e => isShelf (L 2) (L 3) zone site (bnOf e)) ∧ Pl.Srt (lessO ordNear) C ∧ w'.ownsRow w.heap.size 64 8 (.slice A n c) n C.flatten ∧ Below w.heap.size w w' := by
 obtain ⟨hn, _, hL, hr⟩ := ht 3 (by decide)
 obtain ⟨W0, hW0⟩ : ∃ W, W = (((w.alloc (.cells h.cells 37)).alloc (.cells #[.string zone] 9)).alloc (.cells #[.string site] 9)) := ⟨_, rfl⟩
 have B0 : Hid (Below w.heap.size w W0) := Lib.hid (by rw [hW0]; exact (((Below.refl _ _).alloc (Nat.le_refl _) _).alloc (by simp <;> omega) _).alloc (by simp <;> omega) _)
 have hs0 : W0.heap.size = w.heap.size + 3 := by rw [hW0]; simp
 have HX0 : Hid (W0.heap[w.heap.size]? = some (.cells h.cells 37 (0, 0))) := Lib.hid (by
  rw [hW0]
  have hq := heap_alloc_new w (.cells h.cells 37)
  exact (Below.heap_alloc _ _ _ (by simp <;> omega)).trans ((Below.heap_alloc _ _ _ (by simp <;> omega)).trans (by simpa using hq)))
 have HX1 : Hid (W0.heap[w.heap.size + 1]? = some (.cells #[.string zone] 9 (0, 0))) := Lib.hid (by
  rw [hW0]
  have hq := heap_alloc_new (w.alloc (.cells h.cells 37)) (.cells #[.string zone] 9)
  exact (Below.heap_alloc _ _ _ (by simp <;> omega)).trans (by simpa using hq))
 have HX2 : Hid (W0.heap[w.heap.size + 2]? = some (.cells #[.string site] 9 (0, 0))) := Lib.hid (by
  rw [hW0]
  have hq := heap_alloc_new ((w.alloc (.cells h.cells 37)).alloc (.cells #[.string zone] 9)) (.cells #[.string site] 9)
  exact by simpa using hq)
 have c5 : W0.cell? ⟨w.heap.size, 3, none⟩ = some (.slice (h.A 3) (h.n 3) (h.c 3)) := by rw [cell_of_block HX0.out]; rfl
 have l5 : w.heap.size < W0.heap.size := by omega
 have HTL : Hid (TellsF kBin W0 171 #[.pointer (some ⟨w.heap.size + 1, 0, none⟩), .pointer (some ⟨w.heap.size, 0, none⟩), .pointer (some ⟨w.heap.size + 1 + 1, 0, none⟩)] (fun e => isShelf (L 2) (L 3) zone site (bnOf e))) := Lib.hid ⟨fun args W => by kernel_rfl, fun W hW e he => by
  have hbw := B0.out.trans (hW.mono B0.out.size)
  have hx := bn_cells he
  have hx0 := (hW.block _ (lt_of_block HX0.out)).trans HX0.out
  have hx1 := (hW.block _ (lt_of_block HX1.out)).trans HX1.out
  have hx2 := (hW.block _ (lt_of_block HX2.out)).trans HX2.out
  obtain ⟨b, hb⟩ : ∃ b, bnOf e = b := ⟨_, rfl⟩
  rw [hb] at hx
  obtain ⟨b0, b1, b2, b3, b4, b5, b6, b7⟩ := b
  have h1 := cshelf_any h L (w.heap.size + 1) w.heap.size (w.heap.size + 2) zone site b0 b1 b2 b3 b4 b5 b6 b7 W (by rw [cell_of_block hx1]; rfl) (by rw [cell_of_block hx2]; rfl) hx0 (lt_of_block hx1) (lt_of_block hx2) (ht.below hbw)
  have h2 : e.toArray = #[.string b0, .string b1, .int .i64 b2, .int .i64 b3, .int .i64 b4, .int .i64 b5, .int .i64 b6, .bool b7] := by rw [hx]; rfl
  rw [← h2, ← hb] at h1
  exact h1⟩
 have HK := Lib.hid (keepBin (h.A 3) (h.n 3) (h.c 3) _ _ _ (L 3) W0 hn (by omega) hL (hr.below B0.out |>.mono B0.out.size) HTL.out)
 have HL := Lib.hid hL
 have HLE : Hid (((L 3).filter fun e => isShelf (L 2) (L 3) zone site (bnOf e)).length ≤ 4000) := Lib.hid (Nat.le_trans (List.length_filter_le _ _) (by omega))
 have hmf : ∀ (fn : Fn) (first cap : Array Value) (w : World), (Instr.makeFunc fn first cap).run Tryz.prog w = .ok (.func fn first cap) w := fun _ _ _ _ => rfl
 have HW0 := Lib.hid hW0
 clear hn hL hr ht hs0 hn6 hW0
 go_enter Tryz.func121, Tryz.ntmps121
 go_upto_region 1 with fail
 rw [← HW0.out]
 clear HW0
 go_wp2_with fail
 refine HK.out.mono ?_
 rintro e w1 ⟨A, n, c, hln, rfl, ho1, hb1⟩
 have hnl : n ≤ 4000 := by rw [hln]; exact HLE.out
 have HS := Lib.hid (sortAllBin w.heap.size n c 173 A ordNear _ w1 hln hnl (fun x hx => HL.out x (List.mem_filter.1 hx).1) tellsN weak_near (own_down ho1 B0.out.size) (Nat.le_trans B0.out.size hb1.size))
 have HLN := Lib.hid hln
 have HB1 := Lib.hid (B0.out.trans (hb1.mono B0.out.size))
 clear hln hnl ho1 hb1 HK c5 l5
 go_wp2_with fail
 refine HS.out.mono ?_
 rintro e w2 ⟨rfl, C, hp, hs, ho2, hb2⟩
 have HP := Lib.hid (And.intro hp hs)
 have HO2 := Lib.hid ho2
 have HB2 := Lib.hid (HB1.out.trans hb2)
 clear hp hs ho2 hb2
 go_wp2_with fail
 go_ret
 exact ⟨A, n, c, C, HLN.out.trans HP.out.1.length_eq.symm, rfl, HP.out.1, HP.out.2, HO2.out, HB2.out⟩
end Go.Proofs.YtgbilfkjfeheaaaGreat

namespace Go.Proofs.YtgbilfkjfeheaaaGreat
set_option linter.unusedVariables false
open Go.RowKit

theorem lt_alike {a b : ByteArray} (h1 : Pl.lt a b = false) (h2 : Pl.lt b a = false) : a = b := by
 rcases Pl.lt_tri a b with h | h | h
 · rw [h] at h1; cases h1
 · exact h
 · rw [h] at h2; cases h2
theorem lex_alike {α : Type} {l m : α → α → Bool} {a b : α} (h1 : Pl.lex l m a b = false) (h2 : Pl.lex l m b a = false) : m a b = false ∧ m b a = false := by
 unfold Pl.lex at h1 h2
 cases e1 : l a b with
 | true => rw [e1] at h1; simp at h1
 | false =>
  cases e2 : l b a with
  | true => rw [e2] at h2; simp at h2
  | false =>
   rw [e1, e2] at h1 h2
   simp at h1 h2
   exact ⟨h1, h2⟩
theorem near_alike {a b : Bn} (h1 : nearB a b = false) (h2 : nearB b a = false) : a.code = b.code := by
 obtain ⟨h3, h4⟩ := lex_alike h1 h2
 obtain ⟨h5, h6⟩ := lex_alike h3 h4
 exact lt_alike h5 h6
theorem ahead_alike {a b : Rl} (h1 : aheadR a b = false) (h2 : aheadR b a = false) : a.zone = b.zone := by
 obtain ⟨h3, h4⟩ := lex_alike h1 h2
 obtain ⟨h5, h6⟩ := lex_alike h3 h4
 exact lt_alike h5 h6
theorem shelf_is {LI LZ LB LQ C : List (List Value)} {zone st it : ByteArray} {n : Int} (hp : C.Perm (LB.filter fun e => isShelf LZ LB zone st (bnOf e))) (hs : Pl.Srt (lessO ordNear) C) {q : Nat} (hq : q < C.length) (hf : roomE LI LB LQ (bnOf C[q]).code it n = 0) (hno : ∀ j (hj : j < C.length), j < q → decide (roomE LI LB LQ (bnOf C[j]).code it n = 0) = false) :
 shelfT LI LZ LB LQ zone st it n = some (bnOf C[q]).code := by
 have hsub : ∀ x ∈ C, x ∈ LB := fun x hx => (List.mem_filter.1 (hp.mem_iff.1 hx)).1
 have hsh : ∀ x ∈ C, isShelf LZ LB zone st (bnOf x) = true := fun x hx => (List.mem_filter.1 (hp.mem_iff.1 hx)).2
 obtain ⟨b, hb, hbl, hgb, h1, h2, h3⟩ := Pl.first_best (lt := lessO ordNear) weak_near (L := LB) (M := C) hs (P := fun i => takesB LI LZ LB LQ zone st it n (bnA LB i)) (p := fun e => takesB LI LZ LB LQ zone st it n (bnOf e)) (g := fun i => LB.getD i []) (fun i h => Pl.getD_at _ _ h) (fun i h => rfl) hsub
  (fun x hx hpx => hp.mem_iff.2 (List.mem_filter.2 ⟨hx, by have : takesB LI LZ LB LQ zone st it n (bnOf x) = true := hpx; rw [takesB_shelf, Bool.and_eq_true] at this; exact this.1⟩)) hq (by show takesB LI LZ LB LQ zone st it n (bnOf C[q]) = true; rw [takesB_shelf, hsh _ (List.getElem_mem hq), hf]; rfl)
  (fun j hj hjq => by show takesB LI LZ LB LQ zone st it n (bnOf C[j]) = false; rw [takesB_shelf, hno j hj hjq, Bool.and_false])
 unfold shelfT bestB
 have e : (fun i j => nearB (bnA LB i) (bnA LB j)) = (fun i j => lessO ordNear (LB.getD i []) (LB.getD j [])) := by funext i j; exact (less_near _ _).symm
 rw [e, hb]
 rw [less_near] at h1 h2
 show some (bnA LB b).code = _
 rw [show bnA LB b = bnOf (LB.getD b []) from rfl, near_alike h1 h2]
theorem shelf_none {LI LZ LB LQ C : List (List Value)} {zone st it : ByteArray} {n : Int} (hp : C.Perm (LB.filter fun e => isShelf LZ LB zone st (bnOf e))) (hno : ∀ j (hj : j < C.length), decide (roomE LI LB LQ (bnOf C[j]).code it n = 0) = false) : shelfT LI LZ LB LQ zone st it n = none := by
 have e : bestB LI LZ LB LQ zone st it n LB.length = none := by
  unfold bestB
  exact Pl.none_best (M := C) (p := fun e => takesB LI LZ LB LQ zone st it n (bnOf e)) (g := fun i => LB.getD i []) (fun i h => Pl.getD_at _ _ h) (fun i h => rfl)
   (fun x hx hpx => hp.mem_iff.2 (List.mem_filter.2 ⟨hx, by have : takesB LI LZ LB LQ zone st it n (bnOf x) = true := hpx; rw [takesB_shelf, Bool.and_eq_true] at this; exact this.1⟩))
   (fun j hj => by show takesB LI LZ LB LQ zone st it n (bnOf C[j]) = false; rw [takesB_shelf, hno j hj, Bool.and_false]) _
 unfold shelfT
 rw [e]
 rfl
theorem sug_found {LI LZ LB LQ LR C : List (List Value)} {st it code : ByteArray} {n : Int} (hi : (atItem LI it).isSome = true) (hp : C.Perm (LR.filter fun e => speaks it (rlOf e))) (hs : Pl.Srt (lessO ordAhead) C) {q : Nat} (hq : q < C.length) (hf : shelfT LI LZ LB LQ (rlOf C[q]).zone st it n = some code) (hno : ∀ j (hj : j < C.length), j < q → takesR LI LZ LB LQ st it n (rlOf C[j]) = false) :
 sugT LI LZ LB LQ LR st it n = code ∧ sugE LI LZ LB LQ LR st it n = 0 := by
 have hsub : ∀ x ∈ C, x ∈ LR := fun x hx => (List.mem_filter.1 (hp.mem_iff.1 hx)).1
 have hsh : ∀ x ∈ C, speaks it (rlOf x) = true := fun x hx => (List.mem_filter.1 (hp.mem_iff.1 hx)).2
 obtain ⟨b, hb, hbl, hgb, h1, h2, h3⟩ := Pl.first_best (lt := lessO ordAhead) weak_ahead (L := LR) (M := C) hs (P := fun i => takesR LI LZ LB LQ st it n (rlA LR i)) (p := fun e => takesR LI LZ LB LQ st it n (rlOf e)) (g := fun i => LR.getD i []) (fun i h => Pl.getD_at _ _ h) (fun i h => rfl) hsub
  (fun x hx hpx => hp.mem_iff.2 (List.mem_filter.2 ⟨hx, by have : takesR LI LZ LB LQ st it n (rlOf x) = true := hpx; unfold takesR at this; rw [Bool.and_eq_true] at this; exact this.1⟩)) hq (by show takesR LI LZ LB LQ st it n (rlOf C[q]) = true; unfold takesR; rw [hsh _ (List.getElem_mem hq), hf]; rfl)
  (fun j hj hjq => hno j hj hjq)
 have e : (fun i j => aheadR (rlA LR i) (rlA LR j)) = (fun i j => lessO ordAhead (LR.getD i []) (LR.getD j [])) := by funext i j; exact (less_ahead _ _).symm
 have hbr : bestR LI LZ LB LQ LR st it n = some b := by unfold bestR; rw [e]; exact hb
 rw [less_ahead] at h1 h2
 have hz : (rlA LR b).zone = (rlOf C[q]).zone := ahead_alike h1 h2
 unfold sugT sugE
 rw [if_neg (by rw [hi]; simp), if_neg (by rw [hi]; simp), hbr]
 simp only [hz, hf]
 exact ⟨rfl, rfl⟩
theorem sug_none {LI LZ LB LQ LR C : List (List Value)} {st it : ByteArray} {n : Int} (hi : (atItem LI it).isSome = true) (hp : C.Perm (LR.filter fun e => speaks it (rlOf e))) (hno : ∀ j (hj : j < C.length), takesR LI LZ LB LQ st it n (rlOf C[j]) = false) :
 sugT LI LZ LB LQ LR st it n = ⟨#[]⟩ ∧ sugE LI LZ LB LQ LR st it n = 30 := by
 have hbr : bestR LI LZ LB LQ LR st it n = none := by
  unfold bestR
  exact Pl.none_best (M := C) (p := fun e => takesR LI LZ LB LQ st it n (rlOf e)) (g := fun i => LR.getD i []) (fun i h => Pl.getD_at _ _ h) (fun i h => rfl)
   (fun x hx hpx => hp.mem_iff.2 (List.mem_filter.2 ⟨hx, by have : takesR LI LZ LB LQ st it n (rlOf x) = true := hpx; unfold takesR at this; rw [Bool.and_eq_true] at this; exact this.1⟩)) hno _
 unfold sugT sugE
 rw [if_neg (by rw [hi]; simp), if_neg (by rw [hi]; simp), hbr]
 exact ⟨rfl, rfl⟩
theorem sug_noitem {LI LZ LB LQ LR : List (List Value)} {st it : ByteArray} {n : Int} (hi : (atItem LI it).isSome = false) : sugT LI LZ LB LQ LR st it n = ⟨#[]⟩ ∧ sugE LI LZ LB LQ LR st it n = 12 := by
 unfold sugT sugE
 rw [if_pos hi, if_pos hi]
 exact ⟨rfl, rfl⟩
theorem takes_not {LI LZ LB LQ : List (List Value)} {st it : ByteArray} {n : Int} {r : Rl} (h : shelfT LI LZ LB LQ r.zone st it n = none) : takesR LI LZ LB LQ st it n r = false := by
 unfold takesR; rw [h, Option.isSome_none, Bool.and_false]
end Go.Proofs.YtgbilfkjfeheaaaGreat

namespace Go.Proofs.YtgbilfkjfeheaaaGreat
set_option linter.unusedVariables false
open Go.RowKit

theorem own_lt {w : World} {B T sz n c g : Nat} {xs : List Value} (h : w.ownsRow B T sz (.slice (some ⟨g, 0, none⟩) n c) n xs) : g < w.heap.size := by
 obtain ⟨_, h | ⟨g', cap, cur, hv, hg, hh, hr⟩⟩ := h
 · exact absurd h.1 (by simp)
 · injection hv with h1; injection h1 with h1; injection h1 with h1; subst h1; exact lt_of_block hh
/-- A thing of a row, in every world behind. -/
theorem row_far {ks : List CK} {w w' : World} {B T sz g n c p : Nat} {M : List (List Value)} (ho : w.ownsRow B T sz (.slice (some ⟨g, 0, none⟩) n c) n M.flatten) (hM : Things ks M) (hs : ks.length = sz) (hn : n = M.length) (hp : p < M.length) (hb : Below w.heap.size w w') : w'.rangeAt g (p * sz) M[p] := row_at (own_below ho hb) hM hs hn (List.getElem?_eq_getElem hp)
set_option maxRecDepth 100000 in
set_option maxHeartbeats 6400000 in
theorem csug_any (h : Hs) (L : Nat → List (List Value)) (st it : ByteArray) (n : Int) (w : World) (hh : HT h L w) (hn3 : h.n 3 ≤ 1000) (hn5 : h.n 5 ≤ 1001) (hwf : Wf n) :
 Calls Tryz.prog 81 #[.agg h.cells, .string st, .string it, .int .i64 n] w fun e w' => e = .returned (.tuple #[.string (sugT (L 0) (L 2) (L 3) (L 4) (L 5) st it n), .int .i64 (sugE (L 0) (L 2) (L 3) (L 4) (L 5) st it n : Nat)]) ∧ Below w.heap.size w w' := by
 obtain ⟨x, hx, hxo⟩ := item_it hh it
 obtain ⟨ii, hii⟩ : ∃ z, (atItem (L 0) it).isSome = z := ⟨_, rfl⟩
 have HNOI : Hid (ii = false → sugT (L 0) (L 2) (L 3) (L 4) (L 5) st it n = ⟨#[]⟩ ∧ sugE (L 0) (L 2) (L 3) (L 4) (L 5) st it n = 12) := Lib.hid (fun e => sug_noitem (hii.trans e))
 have HFO : Hid (ii = true → ∀ (C : List (List Value)) (code : ByteArray) (q : Nat) (hq : q < C.length), C.Perm ((L 5).filter fun e => speaks it (rlOf e)) → Pl.Srt (lessO ordAhead) C → shelfT (L 0) (L 2) (L 3) (L 4) (rlOf C[q]).zone st it n = some code → (∀ j (hj : j < C.length), j < q → takesR (L 0) (L 2) (L 3) (L 4) st it n (rlOf C[j]) = false) → sugT (L 0) (L 2) (L 3) (L 4) (L 5) st it n = code ∧ sugE (L 0) (L 2) (L 3) (L 4) (L 5) st it n = 0) := Lib.hid (fun e C code q hq hp hs hf hno => sug_found (hii.trans e) hp hs hq hf hno)
 have HNO : Hid (ii = true → ∀ (C : List (List Value)), C.Perm ((L 5).filter fun e => speaks it (rlOf e)) → (∀ j (hj : j < C.length), takesR (L 0) (L 2) (L 3) (L 4) st it n (rlOf C[j]) = false) → sugT (L 0) (L 2) (L 3) (L 4) (L 5) st it n = ⟨#[]⟩ ∧ sugE (L 0) (L 2) (L 3) (L 4) (L 5) st it n = 30) := Lib.hid (fun e C hp hno => sug_none (hii.trans e) hp hno)
 have CI : Hid (∀ W, Below w.heap.size w W → Calls Tryz.prog 68 #[.agg h.cells, .string it] W fun e w' => e = .returned (.tuple #[.agg #[.string x.code, .string (x.nm 0), .int .i64 (x.fc 0), .string (x.nm 1), .int .i64 (x.fc 1), .string (x.nm 2), .int .i64 (x.fc 2), .string (x.nm 3), .int .i64 (x.fc 3), .int .i64 x.vol, .int .i64 x.wei, .bool x.lots, .bool x.serial, .bool x.chk], .bool ii]) ∧ Below W.heap.size W w') := Lib.hid (fun W hW => by have := fcItem (hh.below hW) it; rw [hx, hii] at this; exact this)
 have CR : Hid (∀ W, Below w.heap.size w W → _) := Lib.hid (fun W hW => crulesFor_any h L it W (hh.below hW) (Nat.le_trans hn5 (by decide)))
 have CS : Hid (∀ W, Below w.heap.size w W → ∀ zone, _) := Lib.hid (fun W hW zone => cshelves_any h L zone st W (hh.below hW) (Nat.le_trans hn3 (by decide)))
 have CF : Hid (∀ W, Below w.heap.size w W → ∀ s, _) := Lib.hid (fun W hW s => cfits_any h L s it n W (hh.below hW))
 have HT3 := Lib.hid (hh 3 (by decide)).2.2.1
 have HT5 := Lib.hid (hh 5 (by decide)).2.2.1
 obtain ⟨rt, hrt⟩ : ∃ r, sugT (L 0) (L 2) (L 3) (L 4) (L 5) st it n = r := ⟨_, rfl⟩
 obtain ⟨re, hre⟩ : ∃ r, sugE (L 0) (L 2) (L 3) (L 4) (L 5) st it n = r := ⟨_, rfl⟩
 rw [hrt, hre] at HNOI HFO HNO
 rw [hrt, hre]
 have HL5 : Hid ((L 5).length ≤ 1001) := Lib.hid (by rw [← (hh 5 (by decide)).1]; exact hn5)
 have HL3 : Hid ((L 3).length ≤ 1000) := Lib.hid (by rw [← (hh 3 (by decide)).1]; exact hn3)
 clear hrt hre hii hx hxo hh hn3 hn5
 obtain ⟨W0, hW0⟩ : ∃ W0, W0 = (w.alloc (.cells h.cells 37)) := ⟨_, rfl⟩
 have hb0 : Below w.heap.size w W0 := by rw [hW0]; exact (Below.refl _ _).alloc (Nat.le_refl _) _
 have HH : Hid (∀ W, Below W0.heap.size W0 W → W.heap[w.heap.size]? = some (.cells h.cells 37 (0, 0))) := Lib.hid (fun W hW => (hW.block _ (by rw [hW0]; simp)).trans (by
  rw [hW0]
  have hq := heap_alloc_new w (.cells h.cells 37)
  exact (by simpa using hq)))
 have HBW : Hid (∀ W, Below W0.heap.size W0 W → Below w.heap.size w W) := Lib.hid (fun W hW => hb0.trans (hW.mono (by rw [hW0]; simp)))
 have huh := Tryz.underlying37
 have hur := Tryz.underlying98
 have hub := Tryz.underlying64
 have HSH : Hid (∀ a : Hs, (Tryz.prog.info? 37).map (·.size) = some a.cells.size) := Lib.hid (fun a => by kernel_rfl)
 have HSR : Hid ((Tryz.prog.info? 98).map (·.size) = some 3) := Lib.hid (by kernel_rfl)
 have HSB : Hid ((Tryz.prog.info? 64).map (·.size) = some 8) := Lib.hid (by kernel_rfl)
 have H0 := Lib.hid (Below.refl W0.heap.size W0)
 clear hb0
 subst hW0
 go_enter Tryz.func81, Tryz.ntmps81
 go_wp2_with (first
  | (refine wpList_load_row rfl 37 (.tmp 4) rfl w.heap.size rfl _ _ _ _ (HH.out _ H0.out) huh rfl (HSH.out _) ?_)
  | fail)
 refine (CI.out _ (HBW.out _ H0.out)).mono ?_
 rintro e w1 ⟨rfl, hb1⟩
 have H1 := Lib.hid (H0.out.trans (hb1.mono H0.out.size))
 clear hb1
 have H2 := Lib.hid (H1.out.alloc H1.out.size (.cells #[.string x.code, .string (x.nm 0), .int .i64 (x.fc 0), .string (x.nm 1), .int .i64 (x.fc 1), .string (x.nm 2), .int .i64 (x.fc 2), .string (x.nm 3), .int .i64 (x.fc 3), .int .i64 x.vol, .int .i64 x.wei, .bool x.lots, .bool x.serial, .bool x.chk] 87))
 cases ii with
 | false =>
  have HE := Lib.hid (HNOI.out rfl)
  go_wp2_with fail
  go_ret2
  exact ⟨by rw [HE.out.1, HE.out.2]; rfl, HBW.out _ H2.out⟩
 | true =>
  go_wp2_with (first
   | (refine wpList_load_row rfl 37 (.tmp 4) rfl w.heap.size rfl _ _ _ _ (HH.out _ H2.out) huh rfl (HSH.out _) ?_)
   | fail)
  refine (CR.out _ (HBW.out _ H2.out)).mono ?_
  rintro e w2 ⟨AR, nR, cR, CL, hnr, rfl, hpr, hsr, hor, hbr⟩
  have H3 := Lib.hid (H2.out.trans (hbr.mono H2.out.size))
  have HNR := Lib.hid hnr
  have HPR := Lib.hid hpr
  have HSO := Lib.hid hsr
  have HOR := Lib.hid hor
  have hnr6 : nR ≤ 100000 := by
   have h1 := hpr.length_eq
   have h2 := List.length_filter_le (fun e => speaks it (rlOf e)) (L 5)
   have h3 := HL5.out
   omega
  have HTR : Hid (Things kRule CL) := Lib.hid (fun e he => HT5.out e (List.mem_filter.1 (hpr.mem_iff.1 he)).1)
  clear hnr hpr hsr hor hbr HNOI CI CR
  go_wp2_with fail
  go_loopw [28] (fun kv wr => ∃ k : Nat, k ≤ nR ∧ kv = .int .i64 (k : Int) ∧ Hid (∀ j (hj : j < CL.length), j < k → takesR (L 0) (L 2) (L 3) (L 4) st it n (rlOf CL[j]) = false) ∧ Hid (Below w2.heap.size w2 wr)) (fun kv _ => nR - (intOf kv).toNat)
  case atStart => exact ⟨0, by omega, rfl, Lib.hid (fun j hj h => by omega), Lib.hid (Below.refl _ _)⟩
  case round =>
   obtain ⟨k, hk, rfl, hno, hbl⟩ := hrel
   by_cases hlt : k < nR
   · have hkl : k < CL.length := by rw [← HNR.out]; exact hlt
     obtain ⟨g, rfl⟩ := own_some HOR.out (by omega)
     have h1 : (0 : Int) ≤ (k : Int) := by omega
     have h2 : (k : Int) < (nR : Int) := by omega
     have hr1 := row_far HOR.out HTR.out (by decide) HNR.out hkl hbl.out
     have hfx := HTR.out _ (List.getElem_mem hkl)
     have hxc := rl_cells hfx
     rw [hxc] at hr1
     have HFOK : Hid (∀ code, shelfT (L 0) (L 2) (L 3) (L 4) (rlOf CL[k]).zone st it n = some code → rt = code ∧ re = 0) := Lib.hid (fun code hs => HFO.out (by trivial) CL code k hkl HPR.out HSO.out hs hno.out)
     have HNN : Hid (shelfT (L 0) (L 2) (L 3) (L 4) (rlOf CL[k]).zone st it n = none → ∀ j (hj : j < CL.length), j < k + 1 → takesR (L 0) (L 2) (L 3) (L 4) st it n (rlOf CL[j]) = false) := Lib.hid (fun hs j hj hjk => by
      by_cases e : j = k
      · subst e; exact takes_not hs
      · exact hno.out j hj (by omega))
     obtain ⟨r, hr⟩ : ∃ r, rlOf CL[k] = r := ⟨_, rfl⟩
     rw [hr] at hr1 HFOK HNN
     clear hr hxc hfx
     obtain ⟨ra, rz, rk⟩ := r
     unfold Rl.cells at hr1
     simp only [] at hr1
     have HR1 := Lib.hid hr1
     have HBX := Lib.hid (H3.out.trans (hbl.out.mono H3.out.size))
     have HB4 := Lib.hid (HBX.out.alloc HBX.out.size (.cells #[.string ra, .string rz, .int .i64 rk] 98))
     have HBL4 := Lib.hid (hbl.out.alloc hbl.out.size (.cells #[.string ra, .string rz, .int .i64 rk] 98))
     have hlb : g < wr.heap.size := own_lt (own_below HOR.out hbl.out)
     clear hr1 hkl
     go_wp2_with (first
      | (refine wpList_load_mid rfl 98 (.tmp 30) rfl g (k * 3) rfl [.string ra, .string rz, .int .i64 rk] _ HR1.out hur rfl HSR.out ?_)
      | (refine wpList_load_row rfl 37 (.tmp 4) rfl w.heap.size rfl _ _ _ _ (HH.out _ HB4.out) huh rfl (HSH.out _) ?_)
      | fail)
     refine (CS.out _ (HBW.out _ HB4.out) rz).mono ?_
     rintro e w3 ⟨AB, nB, cB, CB, hnb, rfl, hpb, hsb, hob, hbb⟩
     have H5 := Lib.hid (HB4.out.trans (hbb.mono HB4.out.size))
     have HBL5 := Lib.hid (HBL4.out.trans (hbb.mono HBL4.out.size))
     have HNB := Lib.hid hnb
     have HPB := Lib.hid hpb
     have HSBB := Lib.hid hsb
     have HOB := Lib.hid hob
     have hnb6 : nB ≤ 100000 := by
      have h1 := hpb.length_eq
      have h2 := List.length_filter_le (fun e => isShelf (L 2) (L 3) rz st (bnOf e)) (L 3)
      have h3 := HL3.out
      omega
     have HTB : Hid (Things kBin CB) := Lib.hid (fun e he => HT3.out e (List.mem_filter.1 (hpb.mem_iff.1 he)).1)
     clear hnb hpb hsb hob hbb
     go_wp2_with fail
     go_loopw [38] (fun qv wq => ∃ q : Nat, q ≤ nB ∧ qv = .int .i64 (q : Int) ∧ Hid (∀ j (hj : j < CB.length), j < q → decide (roomE (L 0) (L 3) (L 4) (bnOf CB[j]).code it n = 0) = false) ∧ Hid (Below w3.heap.size w3 wq)) (fun qv _ => nB - (intOf qv).toNat)
     case atStart => exact ⟨0, by omega, rfl, Lib.hid (fun j hj h => by omega), Lib.hid (Below.refl _ _)⟩
     case round =>
      obtain ⟨q, hq, rfl, hnq, hbq⟩ := hrel
      by_cases hlq : q < nB
      · have hql : q < CB.length := by rw [← HNB.out]; exact hlq
        obtain ⟨g2, rfl⟩ := own_some HOB.out (by omega)
        have h3 : (0 : Int) ≤ (q : Int) := by omega
        have h4 : (q : Int) < (nB : Int) := by omega
        have hr2 := row_far HOB.out HTB.out (by decide) HNB.out hql hbq.out
        have hfy := HTB.out _ (List.getElem_mem hql)
        have hyc := bn_cells hfy
        rw [hyc] at hr2
        have HFOB : Hid (roomE (L 0) (L 3) (L 4) (bnOf CB[q]).code it n = 0 → rt = (bnOf CB[q]).code ∧ re = 0) := Lib.hid (fun hs => HFOK.out _ (shelf_is HPB.out HSBB.out hql hs hnq.out))
        have HNQ : Hid (roomE (L 0) (L 3) (L 4) (bnOf CB[q]).code it n ≠ 0 → ∀ j (hj : j < CB.length), j < q + 1 → decide (roomE (L 0) (L 3) (L 4) (bnOf CB[j]).code it n = 0) = false) := Lib.hid (fun hs j hj hjq => by
         by_cases e : j = q
         · subst e; simpa using hs
         · exact hnq.out j hj (by omega))
        obtain ⟨y, hy⟩ : ∃ y, bnOf CB[q] = y := ⟨_, rfl⟩
        rw [hy] at hr2 HFOB HNQ
        clear hy hyc hfy
        obtain ⟨yc, yz, yk, ya, yp, yv, yw, yf⟩ := y
        obtain ⟨fe, hfe⟩ : ∃ e, roomE (L 0) (L 3) (L 4) yc it n = e := ⟨_, rfl⟩
        simp only [hfe] at HFOB HNQ
        unfold Bn.cells at hr2
        simp only [] at hr2
        have HR2 := Lib.hid hr2
        have HB6 := Lib.hid (H5.out.trans (hbq.out.mono H5.out.size))
        have HB7 := Lib.hid (HB6.out.alloc HB6.out.size (.cells #[.string yc, .string yz, .int .i64 yk, .int .i64 ya, .int .i64 yp, .int .i64 yv, .int .i64 yw, .bool yf] 64))
        have HBQ7 := Lib.hid (hbq.out.alloc hbq.out.size (.cells #[.string yc, .string yz, .int .i64 yk, .int .i64 ya, .int .i64 yp, .int .i64 yv, .int .i64 yw, .bool yf] 64))
        have hlb2 : g2 < wr.heap.size := own_lt (own_below HOB.out hbq.out)
        have HCF := Lib.hid (CF.out _ (HBW.out _ HB7.out) yc)
        rw [hfe] at HCF
        clear hr2 hql hfe
        go_wp2_with (first
         | (refine wpList_load_mid rfl 64 (.tmp 40) rfl g2 (q * 8) rfl [.string yc, .string yz, .int .i64 yk, .int .i64 ya, .int .i64 yp, .int .i64 yv, .int .i64 yw, .bool yf] _ HR2.out hub rfl HSB.out ?_)
         | (refine wpList_load_row rfl 37 (.tmp 4) rfl w.heap.size rfl _ _ _ _ (HH.out _ HB7.out) huh rfl (HSH.out _) ?_)
         | fail)
        refine HCF.out.mono ?_
        rintro e w5 ⟨rfl, hb5⟩
        have HB8 := Lib.hid (HB7.out.trans (hb5.mono HB7.out.size))
        have HBQ8 := Lib.hid (HBQ7.out.trans (hb5.mono HBQ7.out.size))
        have c50 : w5.cell? ⟨wr.heap.size, 0, none⟩ = some (.string yc) := (hb5.cell (p := ⟨wr.heap.size, 0, none⟩) (by simp)).trans (by simp [go_sem])
        clear hb5
        by_cases hfe : fe = 0
        · have HE := Lib.hid (HFOB.out hfe)
          subst hfe
          go_wp2_with fail
          go_ret2
          exact ⟨by rw [HE.out.1, HE.out.2]; rfl, HBW.out _ HB8.out⟩
        · have hfb : ((fe : Int) == 0) = false := by simpa using hfe
          have HN2 := Lib.hid (HNQ.out hfe)
          clear hfe
          go_wp2_with fail
          go_roundw
          case rel => exact ⟨q + 1, by omega, by go_num, HN2, HBQ8⟩
          case measure => simp [intOf]; omega
      · have hqn : q = nB := by omega
        have HNN2 := Lib.hid (HNN.out (shelf_none HPB.out (fun j hj => hnq.out j hj (by have := HNB.out; omega))))
        have HBL6 := Lib.hid (HBL5.out.trans (hbq.out.mono HBL5.out.size))
        clear hqn
        go_wp2_with fail
        go_roundw
        case rel => exact ⟨k + 1, by omega, by go_num, HNN2, HBL6⟩
        case measure => simp [intOf]; omega
   · have HE := Lib.hid (HNO.out (by trivial) CL HPR.out (fun j hj => hno.out j hj (by have := HNR.out; omega)))
     have HBX := Lib.hid (H3.out.trans (hbl.out.mono H3.out.size))
     go_wp2_with fail
     go_ret2
     exact ⟨by rw [HE.out.1, HE.out.2]; rfl, HBW.out _ HBX.out⟩
end Go.Proofs.YtgbilfkjfeheaaaGreat
