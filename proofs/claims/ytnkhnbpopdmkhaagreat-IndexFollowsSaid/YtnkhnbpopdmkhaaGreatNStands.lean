/-
  CONTRACT of the code's stands. (By wip/tools/gen_ncode.py.)
-/
import Derived.Test.YtnkhnbpopdmkhaaGreatNElig
import Derived.Test.YtnkhnbpopdmkhaaGreatWRefA
import Derived.Test.YtnkhnbpopdmkhaaGreatHAppK
namespace Go.Proofs.YtnkhnbpopdmkhaaGreat
set_option linter.unusedVariables false
open Go.RowKit
open Pl (firstG findG putG It firstG_none firstG_some)

/-- The call hands back a new list of stands. -/
def FreshS (w : World) (S : List (List Value)) (e : Ending) (w' : World) : Prop :=
  ∃ A n c, n = S.length ∧ e = .returned (.slice A n c) ∧ w'.ownsRow (w.heap.size + 1) 112 8 (.slice A n c) n S.flatten ∧ Below w.heap.size w w' ∧ w.heap.size + 1 ≤ w'.heap.size
def standsK (L : Nat → List (List Value)) (item : ByteArray) (k : Nat) : List (List Value) := (((L 4).take k).filter (fun e => itB item e && elB (L 2) (L 3) e)).map (fun e => stE (L 1) (L 2) (L 3) e 0)
theorem standsK_succ (L : Nat → List (List Value)) (item : ByteArray) {k : Nat} (hk : k < (L 4).length) : standsK L item (k + 1) = standsK L item k ++ if (itB item (qA (L 4) k) && elB (L 2) (L 3) (qA (L 4) k)) = true then [stE (L 1) (L 2) (L 3) (qA (L 4) k) 0] else [] := by
  unfold standsK
  rw [List.take_succ_eq_append_getElem hk, List.filter_append, List.map_append, qA_at (L 4) k hk]
  congr 1
  by_cases h : (itB item (L 4)[k] && elB (L 2) (L 3) (L 4)[k]) = true
  · rw [if_pos h]; simp only [List.filter_cons, h, if_true]; rfl
  · rw [if_neg h]; simp only [List.filter_cons, h]; rfl
theorem standsK_le (L : Nat → List (List Value)) (item : ByteArray) (k : Nat) : (standsK L item k).length ≤ k := by
  unfold standsK
  rw [List.length_map]
  exact Nat.le_trans (List.length_filter_le _ _) (List.length_take_le _ _)
set_option maxRecDepth 100000 in
set_option maxHeartbeats 3200000 in
theorem cstands (h : Hs) (L : Nat → List (List Value)) (it : ByteArray) (w : World) (hh : HT h L w) (hn6 : h.n 4 ≤ 1000) :
    Calls Tryz.prog 32 #[.agg h.cells, .string it] w (FreshS w (standsL L it)) := by
  obtain ⟨i0, z0, hi0, hz0, hz1, hz2, hz3⟩ := info_thing (P := Tryz.prog) (T := 112) (sz := 8) (by kernel_rfl)
  have hby : ∀ x, x ≤ 1000000 → x * i0.bytes ≤ 140737488355328 := fun x hx => Nat.le_trans (Nat.mul_le_mul hx hz3) (by decide)
  have HBY := Lib.hid hby
  clear hby
  have huS := Tryz.underlying112
  have huq := Tryz.underlying58
  have HS8 : Hid (∀ x : List Value, x.length = 8 → (Tryz.prog.info? 112).map (·.size) = some x.toArray.size) := Lib.hid (fun x hx => by rw [List.size_toArray, hx]; kernel_rfl)
  have HSQ6 : Hid ((Tryz.prog.info? 58).map (·.size) = some 6) := Lib.hid (by kernel_rfl)
  have HQ1 : Hid (∀ (a b c : ByteArray) (d e f : Int), (#[.string a, .string b, .string c, .int .i64 d, .int .i64 e, .int .i64 f] : Array Value).all (·.oneCell') = true) := Lib.hid (fun _ _ _ _ _ _ => by simp [Value.oneCell'])
  have HQS : Hid (∀ (a b c : ByteArray) (d e f : Int), (Tryz.prog.info? 58).map (·.size) = some (#[.string a, .string b, .string c, .int .i64 d, .int .i64 e, .int .i64 f] : Array Value).size) := Lib.hid (fun _ _ _ _ _ _ => by kernel_rfl)
  have HHT := Lib.hid hh
  obtain ⟨m, hmm⟩ : ∃ m, h.n 4 = m := ⟨_, rfl⟩
  have HNM : Hid (m = (L 4).length) := Lib.hid (by rw [← hmm]; exact (hh 4 (by decide)).1)
  rw [hmm] at hn6
  have HMM := Lib.hid hmm
  have HEND : Hid (standsK L it m = standsL L it) := Lib.hid (by unfold standsK standsL; rw [List.take_of_length_le (by rw [HNM.out]; omega)])
  rw [← HEND.out]
  clear hmm
  obtain ⟨A0, hA0⟩ : ∃ A, h.A 4 = A := ⟨_, rfl⟩
  have HA0 := Lib.hid hA0
  clear hA0
  obtain ⟨W0, hW0⟩ : ∃ W0, W0 = (w.alloc (.cells h.cells 37)) := ⟨_, rfl⟩
  have hb0 : Below w.heap.size w W0 := by rw [hW0]; exact (Below.refl _ _).alloc (Nat.le_refl _) _
  have hs0 : W0.heap.size = w.heap.size + 1 := by rw [hW0]; simp
  have HH : Hid (∀ W, Below W0.heap.size W0 W → W.heap[w.heap.size]? = some (.cells h.cells 37 (0, 0))) := Lib.hid (fun W hW => (hW.block _ (by omega)).trans (by
    rw [hW0]
    have hq := heap_alloc_new w (.cells h.cells 37)
    exact (by simpa using hq)))
  have HBW : Hid (∀ W, Below W0.heap.size W0 W → Below w.heap.size w W ∧ w.heap.size + 1 ≤ W.heap.size) := Lib.hid (fun W hW => ⟨hb0.trans (hW.mono (by omega)), by have := hW.size; omega⟩)
  have huh := Tryz.underlying37
  have HSH : Hid (∀ a : Hs, (Tryz.prog.info? 37).map (·.size) = some a.cells.size) := Lib.hid (fun a => by kernel_rfl)
  have HL4 : Hid (∀ W, Below W0.heap.size W0 W → W.cell? ⟨w.heap.size, 4, none⟩ = some (.slice A0 m (h.c 4)) ∧ w.heap.size < W.heap.size) := Lib.hid (fun W hW => ⟨by rw [cell_of_block (HH.out W hW), ← HMM.out, ← HA0.out]; rfl, by have := hW.size; omega⟩)
  have HOW0 : Hid (Below (w.heap.size + 1) W0 W0 ∧ W0.heap.size = w.heap.size + 1) := Lib.hid ⟨Below.refl _ _, hs0⟩
  have H0 := Lib.hid (Below.refl W0.heap.size W0)
  clear hb0 hs0 hh
  subst hW0
  go_enter Tryz.func32, Tryz.ntmps32
  obtain ⟨d4, dlt⟩ := HL4.out _ H0.out
  go_wp2_with fail
  clear d4 dlt
  go_loopw [5, 13] (fun v i wr => ∃ (k j c' : Nat) (A' : Option Addr), k ≤ m ∧ i = .int .i64 (k : Int) ∧ j ≤ k ∧ v = .slice A' j c' ∧ Hid (j = (standsK L it k).length) ∧ Hid (wr.ownsRow (w.heap.size + 1) 112 8 (.slice A' j c') j (standsK L it k).flatten) ∧ Hid (Below (w.alloc (.cells h.cells 37)).heap.size (w.alloc (.cells h.cells 37)) wr)) (fun _ i _ => m - (intOf i).toNat)
  case atStart => exact ⟨0, 0, 0, none, by omega, rfl, by omega, rfl, Lib.hid (by simp [standsK]), Lib.hid (by simpa [standsK] using World.ownsRow_nil _ _ _ _), H0⟩
  case round =>
    obtain ⟨k, j, c', A', hk, rfl, hjk, rfl, hj, hown, hw⟩ := hrel
    by_cases hlt : k < m
    · skip
      have hkl : k < (L 4).length := by rw [← HNM.out]; exact hlt
      have HTR : Hid (HT h L wr) := Lib.hid (HHT.out.below (HBW.out _ hw.out).1)
      obtain ⟨b, off, hA, hb, r1⟩ := quant_atW HTR.out hkl
      have hqc := qA_cells HTR.out hkl
      have hqa := qA_at (L 4) k hkl
      have hsn := standsK_succ L it hkl
      obtain ⟨v, hv⟩ : ∃ v, itB it (qA (L 4) k) = v := ⟨_, rfl⟩
      obtain ⟨r, hr⟩ : ∃ r, elB (L 2) (L 3) (qA (L 4) k) = r := ⟨_, rfl⟩
      obtain ⟨X, hX⟩ : ∃ X, elE (L 1) (L 2) (L 3) (qA (L 4) k) = X := ⟨_, rfl⟩
      have hxr : r = true → stE (L 1) (L 2) (L 3) (qA (L 4) k) 0 = X := fun h => by rw [← hX]; unfold elE; rw [hr, if_pos h]
      have HXF : Hid (Fits kstand X) := Lib.hid (by rw [← hX]; unfold elE; split; exact stE_fits _ _ _ _ _; exact zSd.fits)
      have HXR := Lib.hid hxr
      rw [hv, hr] at hsn
      have hvi : Pl.eqv (qnOf (qA (L 4) k)).item it = v := hv
      rw [hqc] at hr hX
      obtain ⟨x, hx⟩ : ∃ x, qnOf (qA (L 4) k) = x := ⟨_, rfl⟩
      rw [hx] at r1 hr hX hvi
      obtain ⟨qb, qi, ql, qs, qq, qh⟩ := x
      unfold Qn.cells at r1 hr hX
      simp only [] at hvi
      have hvi2 : (qi.toList == it.toList) = v := hvi
      have CE : Hid (∀ W, HT h L W → Calls Tryz.prog 41 #[.agg h.cells, .agg #[.string qb, .string qi, .string ql, .int .i64 qs, .int .i64 qq, .int .i64 qh]] W fun e w' => e = .returned (.tuple #[.agg X.toArray, .bool r]) ∧ Below W.heap.size W w') := Lib.hid (fun W hW => by have := celig h L qb qi ql qs qq qh W hW; rw [hX, hr] at this; exact this)
      have HR1 := Lib.hid r1
      have HBL := Lib.hid hb
      have HSN := Lib.hid hsn
      have hle := standsK_le L it k
      clear hqc hqa hx hr hX hxr hvi hv hsn r1 hb hkl
      have h1 : (0 : Int) ≤ (k : Int) := by omega
      have h2 : (k : Int) < (m : Int) := by omega
      rw [HA0.out] at hA
      subst hA
      have HBX : Hid ((wr.alloc (.cells #[.string ⟨#[]⟩, .string ⟨#[]⟩, .string ⟨#[]⟩, .int .i64 0, .int .i64 0, .int .i64 0] 58)).heap[wr.heap.size]? = some (.cells #[.string ⟨#[]⟩, .string ⟨#[]⟩, .string ⟨#[]⟩, .int .i64 0, .int .i64 0, .int .i64 0] 58 (0, 0))) := Lib.hid (heap_alloc_new _ _)
      obtain ⟨w1, hw1⟩ : ∃ W, W = (wr.alloc (.cells #[.string ⟨#[]⟩, .string ⟨#[]⟩, .string ⟨#[]⟩, .int .i64 0, .int .i64 0, .int .i64 0] 58)).setRow wr.heap.size #[.string qb, .string qi, .string ql, .int .i64 qs, .int .i64 qq, .int .i64 qh] := ⟨_, rfl⟩
      have HB1 : Hid (Below wr.heap.size wr w1) := Lib.hid (by rw [hw1]; exact setRow_below ((Below.refl _ _).alloc (Nat.le_refl _) _) (Nat.le_refl _) _)
      have H1 := Lib.hid (hw.out.trans (HB1.out.mono hw.out.size))
      have HQB : Hid (w1.heap[wr.heap.size]? = some (.cells #[.string qb, .string qi, .string ql, .int .i64 qs, .int .i64 qq, .int .i64 qh] 58 (0, 0))) := Lib.hid (by rw [hw1]; exact setRow_heap _ _ _ _ _ _ HBX.out)
      have HOW1 := Lib.hid (own_below hown.out HB1.out)
      have HRL := Lib.hid (rangeAt_below HR1.out HBL.out (Below.refl _ _))
      have HW1 := Lib.hid hw1
      clear hw1
      go_upto_region 5 with (first
        | (refine wpList_load_mid rfl 58 (.tmp 15) rfl b (off + k * 6) rfl [.string qb, .string qi, .string ql, .int .i64 qs, .int .i64 qq, .int .i64 qh] _ HR1.out huq rfl HSQ6.out ?_)
        | (refine wpList_store_row rfl 58 (.tmp 7) (.tmp 16) rfl wr.heap.size #[.string qb, .string qi, .string ql, .int .i64 qs, .int .i64 qq, .int .i64 qh] rfl rfl _ _ HBX.out (HQS.out _ _ _ _ _ _) rfl (HQ1.out _ _ _ _ _ _) ?_)
        | fail)
      rw [← HW1.out]
      have hq1 : w1.cell? ⟨wr.heap.size, 1, none⟩ = some (.string qi) := by rw [cell_of_block HQB.out]; rfl
      have hql := lt_of_block HQB.out
      cases v with
      | false =>
        have hvn : (qi.toList != it.toList) = true := by simp only [bne, hvi2]; rfl
        have HSU : Hid (standsK L it (k + 1) = standsK L it k) := Lib.hid (by rw [HSN.out]; simp)
        go_wp2_with fail
        go_roundw
        case rel => exact ⟨k + 1, j, c', A', by omega, by go_num, by omega, rfl, Lib.hid (by rw [HSU.out]; exact hj.out), Lib.hid (by rw [HSU.out]; exact HOW1.out), H1⟩
        case measure => simp [intOf]; omega
      | true =>
        have hvn : (qi.toList != it.toList) = false := by simp only [bne, hvi2]; rfl
        go_wp2_with (first
          | (refine wpList_load_row rfl 37 (.tmp 2) rfl w.heap.size rfl _ _ _ _ (HH.out _ H1.out) huh rfl (HSH.out _) ?_)
          | (refine wpList_load_row rfl 58 (.tmp 7) rfl wr.heap.size rfl _ _ _ _ HQB.out huq rfl (HQS.out _ _ _ _ _ _) ?_)
          | fail)
        refine (CE.out _ (HTR.out.below HB1.out)).mono ?_
        rintro e w2 ⟨rfl, hb2⟩
        clear hq1 hql hvi2 hvn
        have HBY2 : Hid ((w2.alloc (.cells #[.string ⟨#[]⟩, .string ⟨#[]⟩, .string ⟨#[]⟩, .int .i64 0, .string ⟨#[]⟩, .int .i64 0, .int .i64 0, .int .i64 0] 112)).heap[w2.heap.size]? = some (.cells #[.string ⟨#[]⟩, .string ⟨#[]⟩, .string ⟨#[]⟩, .int .i64 0, .string ⟨#[]⟩, .int .i64 0, .int .i64 0, .int .i64 0] 112 (0, 0))) := Lib.hid (heap_alloc_new _ _)
        obtain ⟨w3, hw3⟩ : ∃ W, W = (w2.alloc (.cells #[.string ⟨#[]⟩, .string ⟨#[]⟩, .string ⟨#[]⟩, .int .i64 0, .string ⟨#[]⟩, .int .i64 0, .int .i64 0, .int .i64 0] 112)).setRow w2.heap.size X.toArray := ⟨_, rfl⟩
        have HB23 : Hid (Below w2.heap.size w2 w3) := Lib.hid (by rw [hw3]; exact setRow_below ((Below.refl _ _).alloc (Nat.le_refl _) _) (Nat.le_refl _) _)
        have HB3 := Lib.hid (hb2.trans (HB23.out.mono hb2.size))
        have H3 := Lib.hid (H1.out.trans (HB3.out.mono H1.out.size))
        have HOW3 := Lib.hid (own_below HOW1.out HB3.out)
        have HSZX : Hid ((#[.string ⟨#[]⟩, .string ⟨#[]⟩, .string ⟨#[]⟩, .int .i64 0, .string ⟨#[]⟩, .int .i64 0, .int .i64 0, .int .i64 0] : Array Value).size = X.toArray.size) := Lib.hid (by rw [List.size_toArray, List.size_toArray, HXF.out.length]; rfl)
        have HX1 := Lib.hid (all_oneCell_toArray (fits_one HXF.out))
        have HXB : Hid (w3.heap[w2.heap.size]? = some (.cells X.toArray 112 (0, 0))) := Lib.hid (by rw [hw3]; exact setRow_heap _ _ _ _ _ _ HBY2.out)
        have HW3 := Lib.hid hw3
        have HXL : Hid (X.length = 8) := Lib.hid HXF.out.length
        have HE1 := Lib.hid (fits_one HXF.out)
        clear hw3 hb2
        go_upto_region 7 with (first
          | (refine wpList_store_row rfl 112 (.tmp 8) (.tmp 26) rfl w2.heap.size X.toArray rfl rfl _ _ HBY2.out (HS8.out _ HXL.out) HSZX.out HX1.out ?_)
          | fail)
        rw [← HW3.out]
        cases r with
        | false =>
          have HSU : Hid (standsK L it (k + 1) = standsK L it k) := Lib.hid (by rw [HSN.out]; simp)
          go_wp2_with fail
          go_roundw
          case rel => exact ⟨k + 1, j, c', A', by omega, by go_num, by omega, rfl, Lib.hid (by rw [HSU.out]; exact hj.out), Lib.hid (by rw [HSU.out]; exact HOW3.out), H3⟩
          case measure => simp [intOf]; omega
        | true =>
          have HSU : Hid (standsK L it (k + 1) = standsK L it k ++ [X]) := Lib.hid (by rw [HSN.out, HXR.out rfl]; rfl)
          have HG1 : Hid (w.heap.size + 1 ≤ (w3.alloc (.cells X.toArray 112)).heap.size) := Lib.hid (by have := (HBW.out _ H3.out).2; simp; omega)
          have HB33 : Hid (Below (w.heap.size + 1) (w.alloc (.cells h.cells 37)) w3) := Lib.hid (by rw [← HOW0.out.2]; exact H3.out)
          go_wp2_with (first
            | (refine wpList_load_row rfl 112 (.tmp 8) rfl w2.heap.size rfl _ _ _ _ HXB.out huS rfl (HS8.out _ HXL.out) ?_)
            | (refine wpList_buildOne rfl _ 112 _ rfl w3.heap.size rfl _ rfl i0 z0 8 Tryz.underlying108 hi0 hz0 hz1 (by decide) (by decide) X (by rfl) HXL.out ?_)
            | (at_builtin; refine wpList_app rfl (.tmp 29) (.tmp 31) _ rfl (w.heap.size + 1) 112 i0 z0 8 i0.bytes Tryz.underlying108 hi0 hz0 hz1 rfl hz2 (by decide) A' j c' _ rfl (HOW3.out.alloc _) (w3.heap.size + 1) (some ⟨w3.heap.size, 0, none⟩) 1 1 X rfl (by rw [HXL.out]) (rd_one w3 X _) HE1.out (by simp only [maxLen]; omega) (HBY.out _ (by omega)) HG1.out ?_; intro A5 c5 w4 hown4 hb4; have HO4 := Lib.hid hown4; have HB4 := Lib.hid ((HB33.out.alloc (HBW.out _ H3.out).2 _).trans hb4); clear hown4 hb4)
            | fail)
          go_roundw
          case rel => exact ⟨k + 1, j + 1, c5, A5, by omega, by go_num, by omega, rfl, Lib.hid (by rw [HSU.out, List.length_append, ← hj.out]; rfl), Lib.hid (by rw [HSU.out, List.flatten_append]; simpa using HO4.out), Lib.hid (by rw [HOW0.out.2]; exact HB4.out)⟩
          case measure => simp [intOf]; omega
    · obtain rfl : k = m := by omega
      go_wp2_with fail
      go_ret
      exact ⟨A', j, c', hj.out, rfl, hown.out, (HBW.out _ hw.out).1, (HBW.out _ hw.out).2⟩
end Go.Proofs.YtnkhnbpopdmkhaaGreat
