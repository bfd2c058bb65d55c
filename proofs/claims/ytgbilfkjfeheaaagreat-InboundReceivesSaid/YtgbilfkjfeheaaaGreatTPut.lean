/-
 CONTRACT of the rows' order of lots.
-/
import Derived.Test.YtgbilfkjfeheaaaGreatOPl
import Derived.Test.YtgbilfkjfeheaaaGreatHHouse
namespace Go.Proofs.YtgbilfkjfeheaaaGreat
set_option linter.unusedVariables false
open Go.RowKit

set_option maxRecDepth 100000 in
theorem rtotals_any (x y : List Value) (w : World) (hx : Fits kTotal x) (hy : Fits kTotal y) : Calls Tryz.prog 119 #[.agg x.toArray, .agg y.toArray] w fun e w' => e = .returned (.int .i64 (ordL x y)) ∧ Below w.heap.size w w' := by
 have HV : Hid (ordL x y = cmps [itemL x, codeL x] [itemL y, codeL y]) := Lib.hid (by rw [cmps_two]; rfl)
 have hxr := total_cells hx
 have hyr := total_cells hy
 obtain ⟨a, ha⟩ : ∃ s, itemL x = s := ⟨_, rfl⟩
 obtain ⟨b, hb⟩ : ∃ s, codeL x = s := ⟨_, rfl⟩
 obtain ⟨c, hc⟩ : ∃ s, itemL y = s := ⟨_, rfl⟩
 obtain ⟨d, hd⟩ : ∃ s, codeL y = s := ⟨_, rfl⟩
 obtain ⟨z, hz⟩ : ∃ s, tlOf x = s := ⟨_, rfl⟩
 obtain ⟨u, hu⟩ : ∃ s, tlOf y = s := ⟨_, rfl⟩
 rw [ha, hb, hc, hd] at HV
 rw [ha, hb, hz] at hxr
 rw [hc, hd, hu] at hyr
 clear ha hb hc hd hz hu hx hy
 obtain ⟨v, hv⟩ : ∃ v, ordL x y = v := ⟨_, rfl⟩
 rw [hv] at HV ⊢
 clear hv
 subst hxr hyr
 go_enter Tryz.func119, Tryz.ntmps119
 go_wp2_with fail
 obtain ⟨W0, hW0⟩ : ∃ W0, W0 = (w.alloc (.cells #[.string a, .string b, .int .i64 z.inn, .int .i64 z.out, .int .i64 z.back, .int .i64 z.fixed] 75)).alloc (.cells #[.string c, .string d, .int .i64 u.inn, .int .i64 u.out, .int .i64 u.back, .int .i64 u.fixed] 75) := ⟨_, rfl⟩
 have hs : W0.heap.size = w.heap.size + 1 + 1 := by rw [hW0]; simp
 have hb0 : Below w.heap.size w W0 := by rw [hW0]; exact ((Below.refl _ _).alloc (Nat.le_refl _) _).alloc (by simp) _
 rw [← hW0]
 clear hW0
 have HR1 : Hid (Rd ((W0.alloc (.cells #[.string a, .string b] 9)).alloc (.cells #[.string c, .string d] 9)) ((W0.alloc (.cells #[.string a, .string b] 9)).alloc (.cells #[.string c, .string d] 9)).heap.size (some ⟨w.heap.size + 1 + 1, 0, none⟩) (sc [a, b])) := Lib.hid (rd_str2 ((Below.heap_alloc _ _ _ (by simp; omega)).trans (by have := heap_alloc_new W0 (.cells #[.string a, .string b] 9); rw [hs] at this; exact this)))
 have HR2 : Hid (Rd ((W0.alloc (.cells #[.string a, .string b] 9)).alloc (.cells #[.string c, .string d] 9)) ((W0.alloc (.cells #[.string a, .string b] 9)).alloc (.cells #[.string c, .string d] 9)).heap.size (some ⟨w.heap.size + 1 + 1 + 1, 0, none⟩) (sc [c, d])) := Lib.hid (rd_str2 (by
  have := heap_alloc_new (W0.alloc (.cells #[.string a, .string b] 9)) (.cells #[.string c, .string d] 9)
  rw [show (W0.alloc (.cells #[.string a, .string b] 9)).heap.size = w.heap.size + 1 + 1 + 1 from by simp; omega] at this
  exact this))
 have HB1 : Hid (Below w.heap.size w ((W0.alloc (.cells #[.string a, .string b] 9)).alloc (.cells #[.string c, .string d] 9))) := Lib.hid ((hb0.alloc hb0.size _).alloc (by have := hb0.size; simp; omega) _)
 clear hs hb0
 refine (texts_any _ _ 2 2 2 2 [a, b] [c, d] _ rfl rfl rfl (by omega) HR1.out HR2.out).mono ?_
 rintro e w' ⟨rfl, hb⟩
 rw [← HV.out]
 have HB2 := Lib.hid (HB1.out.trans (hb.mono HB1.out.size))
 clear hb
 go_wp2_with fail
 go_ret
 exact ⟨rfl, HB2.out⟩
theorem tellsRTot (w : World) : TellsO kTotal w 119 #[] ordL := ⟨fun args W => by kernel_rfl, fun W _ a b ha hb => rtotals_any a b W ha hb⟩
end Go.Proofs.YtgbilfkjfeheaaaGreat
