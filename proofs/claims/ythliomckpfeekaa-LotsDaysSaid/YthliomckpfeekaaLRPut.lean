/-
  CONTRACT of the rows' order of lots.
-/
import Derived.Test.YthliomckpfeekaaRTexts
import Derived.Test.YthliomckpfeekaaLPl
import Derived.Test.YthliomckpfeekaaHLents
import Derived.BigQuiet
namespace Go.Proofs.Ythliomckpfeekaa
set_option linter.unusedVariables false
open Go.RowKit

theorem cmps_two (a b c d : ByteArray) : cmps [a, b] [c, d] = if Pl.cmp a c = 0 then Pl.cmp b d else Pl.cmp a c := by
  have h1 : cmps [a, b] [c, d] = if Pl.lt a c = true then -1 else if Pl.lt c a = true then 1 else cmps [b] [d] := rfl
  have h2 : cmps [a] [c] = if Pl.lt a c = true then -1 else if Pl.lt c a = true then 1 else 0 := rfl
  rw [cmps_one] at h1 h2
  rw [h1, h2]
  by_cases x : Pl.lt a c = true
  · simp [x]
  · by_cases y : Pl.lt c a = true
    · simp [x, y]
    · simp [x, y]
theorem rd_str2 {w : World} {b : Nat} {s s2 : ByteArray} {t : TypeId} (h : w.heap[b]? = some (.cells #[.string s, .string s2] t (0, 0))) : Rd w w.heap.size (some ⟨b, 0, none⟩) (sc [s, s2]) := fun _ => ⟨b, 0, rfl, lt_of_block h, fun j u hu => by
  have hj : j < 2 := by have := (List.getElem?_eq_some_iff.1 hu).1; simpa [sc] using this
  rw [cell_of_block h, ← hu, Nat.zero_add]
  match j, hj with
  | 0, _ => rfl
  | 1, _ => rfl⟩
set_option maxRecDepth 100000 in
theorem rlots_any (x y : List Value) (w : World) (hx : Fits kLot x) (hy : Fits kLot y) : Calls Try.prog 68 #[.agg x.toArray, .agg y.toArray] w fun e w' => e = .returned (.int .i64 (ordL x y)) ∧ Below w.heap.size w w' := by
  have HV : Hid (ordL x y = cmps [itemL x, codeL x] [itemL y, codeL y]) := Lib.hid (by rw [cmps_two]; rfl)
  have hxr := lot_cells hx
  have hyr := lot_cells hy
  obtain ⟨a, ha⟩ : ∃ s, itemL x = s := ⟨_, rfl⟩
  obtain ⟨b, hb⟩ : ∃ s, codeL x = s := ⟨_, rfl⟩
  obtain ⟨c, hc⟩ : ∃ s, itemL y = s := ⟨_, rfl⟩
  obtain ⟨d, hd⟩ : ∃ s, codeL y = s := ⟨_, rfl⟩
  obtain ⟨z, hz⟩ : ∃ s, expL x = s := ⟨_, rfl⟩
  obtain ⟨u, hu⟩ : ∃ s, expL y = s := ⟨_, rfl⟩
  rw [ha, hb, hc, hd] at HV
  rw [ha, hb, hz] at hxr
  rw [hc, hd, hu] at hyr
  clear ha hb hc hd hz hu hx hy
  obtain ⟨v, hv⟩ : ∃ v, ordL x y = v := ⟨_, rfl⟩
  rw [hv] at HV ⊢
  clear hv
  subst hxr hyr
  go_enter Try.func68, Try.ntmps68
  go_wp2_with fail
  obtain ⟨W0, hW0⟩ : ∃ W0, W0 = (w.alloc (.cells #[.string a, .string b, .int .i64 z] 39)).alloc (.cells #[.string c, .string d, .int .i64 u] 39) := ⟨_, rfl⟩
  have hs : W0.heap.size = w.heap.size + 1 + 1 := by rw [hW0]; simp
  have hb0 : Below w.heap.size w W0 := by rw [hW0]; exact ((Below.refl _ _).alloc (Nat.le_refl _) _).alloc (by simp) _
  rw [← hW0]
  clear hW0
  have HR1 : Hid (Rd ((W0.alloc (.cells #[.string a, .string b] 9)).alloc (.cells #[.string c, .string d] 9)) ((W0.alloc (.cells #[.string a, .string b] 9)).alloc (.cells #[.string c, .string d] 9)).heap.size (some ⟨w.heap.size + 1 + 1, 0, none⟩) (sc [a, b])) := Lib.hid (rd_str2 ((Below.heap_alloc _ _ _ (by simp; omega)).trans (by have := heap_alloc_new W0 (.cells #[.string a, .string b] 9); rw [hs] at this; exact this)))
  have HR2 : Hid (Rd ((W0.alloc (.cells #[.string a, .string b] 9)).alloc (.cells #[.string c, .string d] 9)) ((W0.alloc (.cells #[.string a, .string b] 9)).alloc (.cells #[.string c, .string d] 9)).heap.size (some ⟨w.heap.size + 1 + 1 + 1, 0, none⟩) (sc [c, d])) := Lib.hid (rd_str2 (by
    have := heap_alloc_new (W0.alloc (.cells #[.string a, .string b] 9)) (.cells #[.string c, .string d] 9)
    rw [show (W0.alloc (.cells #[.string a, .string b] 9)).heap.size = w.heap.size + 1 + 1 + 1 from by simp; omega] at this
    exact this))
  have HB1 : Hid (Below w.heap.size w ((W0.alloc (.cells #[.string a, .string b] 9)).alloc (.cells #[.string c, .string d] 9))) := Lib.hid ((hb0.alloc hb0.size _).alloc (by have := hb0.size; simp; omega) _)
  clear hs hb0
  refine (texts_any _ _ 2 2 2 2 [a, b] [c, d] _ rfl rfl rfl (by omega) HR1.out HR2.out).mono ?_
  rintro e w' ⟨rfl, hb⟩
  rw [← HV.out]
  have HB2 := Lib.hid (HB1.out.trans (hb.mono HB1.out.size))
  clear hb
  go_wp2_with fail
  go_ret
  exact ⟨rfl, HB2.out⟩
theorem tellsRL (w : World) : TellsO kLot w 68 #[] ordL := ⟨fun args W => by kernel_rfl, fun W _ a b ha hb => rlots_any a b W ha hb⟩
end Go.Proofs.Ythliomckpfeekaa
