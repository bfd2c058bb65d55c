/-
 CONTRACTS of the rows' Keys, quants.
-/
import Derived.Test.YtlkmccmbpnbgbaaGreatOPl
import Derived.Test.YtlkmccmbpnbgbaaGreatGT
import Derived.BigQuiet
namespace Go.Proofs.YtlkmccmbpnbgbaaGreat
set_option linter.unusedVariables false
open Go.RowKit

theorem rd_str3 {w : World} {b : Nat} {s s2 s3 : ByteArray} {t : TypeId} (h : w.heap[b]? = some (.cells #[.string s, .string s2, .string s3] t (0, 0))) : Rd w w.heap.size (some ⟨b, 0, none⟩) (sc [s, s2, s3]) := fun _ => ⟨b, 0, rfl, lt_of_block h, fun j u hu => by
 have hj : j < 3 := by have := (List.getElem?_eq_some_iff.1 hu).1; simpa [sc] using this
 rw [cell_of_block h, ← hu, Nat.zero_add]
 match j, hj with
 | 0, _ => rfl
 | 1, _ => rfl
 | 2, _ => rfl⟩
set_option maxRecDepth 100000 in
set_option maxHeartbeats 800000 in
theorem rkeys_any (a b : Ky) (w : World) : Calls Tryz.prog 126 #[.agg #[.string a.bin, .string a.item, .string a.lot, .int .i64 a.st], .agg #[.string b.bin, .string b.item, .string b.lot, .int .i64 b.st]] w fun e w' => e = .returned (.int .i64 (ordKy a b)) ∧ Below w.heap.size w w' := by
 obtain ⟨a1, a2, a3, a4⟩ := a
 obtain ⟨b1, b2, b3, b4⟩ := b
 simp only []
 obtain ⟨z, hz⟩ : ∃ z, cmps [a1, a2, a3] [b1, b2, b3] = z := ⟨_, rfl⟩
 have HV : Hid (ordKy ⟨a1, a2, a3, a4⟩ ⟨b1, b2, b3, b4⟩ = if z = 0 then cmpI a4 b4 else z) := Lib.hid (by unfold ordKy; simp only []; rw [hz])
 obtain ⟨v, hv⟩ : ∃ v, ordKy ⟨a1, a2, a3, a4⟩ ⟨b1, b2, b3, b4⟩ = v := ⟨_, rfl⟩
 rw [hv] at HV ⊢
 have HZ := Lib.hid hz
 clear hv hz
 go_enter Tryz.func126, Tryz.ntmps126
 go_wp2_with fail
 obtain ⟨W0, hW0⟩ : ∃ W0, W0 = (w.alloc (.cells #[.string a1, .string a2, .string a3, .int .i64 a4] 44)).alloc (.cells #[.string b1, .string b2, .string b3, .int .i64 b4] 44) := ⟨_, rfl⟩
 have hs : W0.heap.size = w.heap.size + 1 + 1 := by rw [hW0]; simp
 have hb0 : Below w.heap.size w W0 := by rw [hW0]; exact ((Below.refl _ _).alloc (Nat.le_refl _) _).alloc (by simp) _
 have k1 : W0.heap[w.heap.size]? = some (.cells #[.string a1, .string a2, .string a3, .int .i64 a4] 44 (0, 0)) := by rw [hW0]; exact (Below.heap_alloc _ _ _ (by simp)).trans (heap_alloc_new _ _)
 have k2 : W0.heap[w.heap.size + 1]? = some (.cells #[.string b1, .string b2, .string b3, .int .i64 b4] 44 (0, 0)) := by
  rw [hW0]
  have := heap_alloc_new (w.alloc (.cells #[.string a1, .string a2, .string a3, .int .i64 a4] 44)) (.cells #[.string b1, .string b2, .string b3, .int .i64 b4] 44)
  simpa using this
 rw [← hW0]
 clear hW0
 obtain ⟨W1, hW1⟩ : ∃ W1, W1 = (W0.alloc (.cells #[.string a1, .string a2, .string a3] 9)).alloc (.cells #[.string b1, .string b2, .string b3] 9) := ⟨_, rfl⟩
 have HR1 : Hid (Rd W1 W1.heap.size (some ⟨w.heap.size + 1 + 1, 0, none⟩) (sc [a1, a2, a3])) := Lib.hid (rd_str3 (t := 9) (by rw [hW1]; exact (Below.heap_alloc _ _ _ (by simp; omega)).trans (by have := heap_alloc_new W0 (.cells #[.string a1, .string a2, .string a3] 9); rw [hs] at this; exact this)))
 have HR2 : Hid (Rd W1 W1.heap.size (some ⟨w.heap.size + 1 + 1 + 1, 0, none⟩) (sc [b1, b2, b3])) := Lib.hid (rd_str3 (t := 9) (by
  rw [hW1]
  have := heap_alloc_new (W0.alloc (.cells #[.string a1, .string a2, .string a3] 9)) (.cells #[.string b1, .string b2, .string b3] 9)
  rw [show (W0.alloc (.cells #[.string a1, .string a2, .string a3] 9)).heap.size = w.heap.size + 1 + 1 + 1 from by simp; omega] at this
  exact this))
 have HW01 : Hid (Below W0.heap.size W0 W1) := Lib.hid (by rw [hW1]; exact ((Below.refl _ _).alloc (Nat.le_refl _) _).alloc (by simp) _)
 have HK : Hid (∀ W, Below W0.heap.size W0 W → W.cell? ⟨w.heap.size, 3, none⟩ = some (.int .i64 a4) ∧ W.cell? ⟨w.heap.size + 1, 3, none⟩ = some (.int .i64 b4) ∧ w.heap.size + 1 < W.heap.size ∧ Below w.heap.size w W) := Lib.hid (fun W hW => ⟨by rw [cell_of_block ((hW.block _ (lt_of_block k1)).trans k1)]; rfl, by rw [cell_of_block ((hW.block _ (lt_of_block k2)).trans k2)]; rfl, by have := hW.size; omega, hb0.trans (hW.mono (by omega))⟩)
 rw [← hW1]
 clear hs hb0 k1 k2 hW1
 refine (texts_any _ _ 3 3 3 3 [a1, a2, a3] [b1, b2, b3] _ rfl rfl rfl (by omega) HR1.out HR2.out).mono ?_
 rintro e w' ⟨rfl, hb⟩
 rw [HZ.out]
 have HB2 := Lib.hid (HW01.out.trans (hb.mono HW01.out.size))
 clear hb
 obtain ⟨c1, c2, clt, hbw⟩ := HK.out _ HB2.out
 have HBW := Lib.hid hbw
 have cl2 : w.heap.size < w'.heap.size := by omega
 clear hbw
 by_cases h0 : z = 0
 · subst h0
   by_cases h1 : a4 < b4
   · have HE : Hid (v = -1) := Lib.hid (by rw [HV.out, if_pos rfl]; unfold cmpI; rw [if_pos h1])
     go_wp2_with fail
     go_ret
     exact ⟨by rw [HE.out]; rfl, HBW.out⟩
   · by_cases h2 : b4 < a4
     · have HE : Hid (v = 1) := Lib.hid (by rw [HV.out, if_pos rfl]; unfold cmpI; rw [if_neg h1, if_pos h2])
       go_wp2_with fail
       go_ret
       exact ⟨by rw [HE.out]; rfl, HBW.out⟩
     · have HE : Hid (v = 0) := Lib.hid (by rw [HV.out, if_pos rfl]; unfold cmpI; rw [if_neg h1, if_neg h2])
       go_wp2_with fail
       go_ret
       exact ⟨by rw [HE.out]; rfl, HBW.out⟩
 · have HE : Hid (v = z) := Lib.hid (by rw [HV.out, if_neg h0])
   have hz : (z != 0) = true := by simpa using h0
   clear h0
   go_wp2_with fail
   go_ret
   exact ⟨by rw [HE.out]; rfl, HBW.out⟩
set_option maxRecDepth 100000 in
set_option maxHeartbeats 800000 in
theorem rquants_any (x y : List Value) (w : World) (hx : Fits kQuant x) (hy : Fits kQuant y) : Calls Tryz.prog 138 #[.agg x.toArray, .agg y.toArray] w fun e w' => e = .returned (.int .i64 (ordQuant x y)) ∧ Below w.heap.size w w' := by
 have hxr := qn_cells hx
 have hyr := qn_cells hy
 obtain ⟨v, hv⟩ : ∃ v, ordQuant x y = v := ⟨_, rfl⟩
 have HV : Hid (ordKy (qnOf x).ky (qnOf y).ky = v) := Lib.hid hv
 rw [hv]
 clear hv
 obtain ⟨p, hp⟩ : ∃ p, qnOf x = p := ⟨_, rfl⟩
 obtain ⟨q, hq⟩ : ∃ q, qnOf y = q := ⟨_, rfl⟩
 rw [hp] at hxr HV
 rw [hq] at hyr HV
 subst hxr hyr
 clear hp hq hx hy
 obtain ⟨p1, p2, p3, p4, p5, p6⟩ := p
 obtain ⟨q1, q2, q3, q4, q5, q6⟩ := q
 unfold Qn.cells
 simp only [Qn.ky] at HV ⊢
 have HC : Hid (∀ W, Calls Tryz.prog 126 #[.agg #[.string p1, .string p2, .string p3, .int .i64 p4], .agg #[.string q1, .string q2, .string q3, .int .i64 q4]] W fun e w' => e = .returned (.int .i64 v) ∧ Below W.heap.size W w') := Lib.hid (fun W => by rw [← HV.out]; exact rkeys_any ⟨p1, p2, p3, p4⟩ ⟨q1, q2, q3, q4⟩ W)
 go_enter Tryz.func138, Tryz.ntmps138
 go_wp2_with fail
 have HB : Hid (Below w.heap.size w ((w.alloc (.cells #[.string p1, .string p2, .string p3, .int .i64 p4, .int .i64 p5, .int .i64 p6] 62)).alloc (.cells #[.string q1, .string q2, .string q3, .int .i64 q4, .int .i64 q5, .int .i64 q6] 62))) := Lib.hid (((Below.refl _ _).alloc (Nat.le_refl _) _).alloc (by simp) _)
 refine (HC.out _).mono ?_
 rintro e w' ⟨rfl, hb⟩
 have HB2 := Lib.hid (HB.out.trans (hb.mono HB.out.size))
 clear hb
 go_wp2_with fail
 go_ret
 exact ⟨rfl, HB2.out⟩
theorem tellsRQ (w : World) : TellsO kQuant w 138 #[] ordQuant := ⟨fun args W => by kernel_rfl, fun W _ a b ha hb => rquants_any a b W ha hb⟩
end Go.Proofs.YtlkmccmbpnbgbaaGreat
