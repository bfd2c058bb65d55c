/-
  CONTRACT of the code's takes. (By wip/tools/gen_ncode.py.)
-/
import Derived.Test.YtnkhnbpopdmkhaaGreatNPl
import Derived.Test.YtnkhnbpopdmkhaaGreatWCon
import Derived.Test.YtnkhnbpopdmkhaaGreatHAppK
import Derived.Lib.MinMax
namespace Go.Proofs.YtnkhnbpopdmkhaaGreat
set_option linter.unusedVariables false
open Go.RowKit
open Pl (firstG findG putG It firstG_none firstG_some)

set_option maxRecDepth 100000 in
set_option maxHeartbeats 3200000 in
theorem ctakes (A0 : Option Addr) (n c0 : Nat) (S : List (List Value)) (si : ByteArray) (q0 : Int) (w : World) (hn : n = S.length) (hn6 : n ≤ 1000) (hS : Things kstand S) (hF : ∀ e ∈ S, 0 < (sdOf e).free) (hr : Rd w w.heap.size A0 S.flatten) (hq : Wf q0) :
    Calls Tryz.prog 35 #[.slice A0 n c0, .string si, .int .i64 q0] w (TakesP (cutS si S q0) w) := by
  obtain ⟨i0, z0, hi0, hz0, hz1, hz2, hz3⟩ := info_thing (P := Tryz.prog) (T := 62) (sz := 5) (by kernel_rfl)
  have hby : ∀ x, x ≤ 1000000 → x * i0.bytes ≤ 140737488355328 := fun x hx => Nat.le_trans (Nat.mul_le_mul hx hz3) (by decide)
  have HBY := Lib.hid hby
  clear hby
  have huS := Tryz.underlying112
  have huk := Tryz.underlying56
  have HSK4 : Hid ((Tryz.prog.info? 56).map (·.size) = some 4) := Lib.hid (by kernel_rfl)
  have HSS8 : Hid ((Tryz.prog.info? 112).map (·.size) = some 8) := Lib.hid (by kernel_rfl)
  have H1R : Hid (∀ (a b c g : ByteArray) (d e f i : Int), (#[.string a, .string b, .string c, .int .i64 d, .string g, .int .i64 e, .int .i64 f, .int .i64 i] : Array Value).all (·.oneCell') = true) := Lib.hid (fun _ _ _ _ _ _ _ _ => by simp [Value.oneCell'])
  have HS8 : Hid (∀ (a b c g : ByteArray) (d e f i : Int), (Tryz.prog.info? 112).map (·.size) = some (#[.string a, .string b, .string c, .int .i64 d, .string g, .int .i64 e, .int .i64 f, .int .i64 i] : Array Value).size) := Lib.hid (fun _ _ _ _ _ _ _ _ => by kernel_rfl)
  have HN := Lib.hid hn
  have HST := Lib.hid hS
  have HFR := Lib.hid hF
  have HRD := Lib.hid hr
  obtain ⟨R, hR⟩ : ∃ R, cutS si S q0 = R := ⟨_, rfl⟩
  have HR0 : Hid (R = [] ++ cutS si (S.drop 0) q0) := Lib.hid (by rw [← hR]; rfl)
  have HWQ0 := Lib.hid hq
  rw [hR]
  clear hn hS hF hr hR hq
  go_enter Tryz.func35, Tryz.ntmps35
  go_wp2_with fail
  go_loopw [7, 13, 2] (fun v i qv wr => ∃ (k j c' : Nat) (A' : Option Addr) (D : List (List Value)) (q : Int), k ≤ n ∧ i = .int .i64 (k : Int) ∧ j ≤ k ∧ v = .slice A' j c' ∧ qv = .int .i64 q ∧ Hid (Wf q) ∧ Hid (j = D.length) ∧ Hid (R = D ++ cutS si (S.drop k) q) ∧ Hid (wr.ownsRow w.heap.size 62 5 (.slice A' j c') j D.flatten) ∧ Hid (Below w.heap.size w wr)) (fun _ i _ _ => n - (intOf i).toNat)
  case atStart => exact ⟨0, 0, 0, none, [], q0, by omega, rfl, by omega, rfl, rfl, HWQ0, Lib.hid rfl, HR0, Lib.hid (by simpa using World.ownsRow_nil _ _ _ _), Lib.hid (Below.refl _ _)⟩
  case round =>
    obtain ⟨k, j, c', A', D, q, hk, rfl, hjk, rfl, rfl, HQ, hj, HRD2, hown, hw⟩ := hrel
    by_cases hlt : k < n
    · skip
      have hkl : k < S.length := by rw [← HN.out]; exact hlt
      obtain ⟨b, off, rfl, hb, hcs⟩ := HRD.out.thing HST.out (by decide) hkl
      have r1 := rangeAt_below (hcs k hkl) hb hw.out
      have hxe := sd_cells (HST.out _ (List.getElem_mem hkl))
      have hfe := HFR.out _ (List.getElem_mem hkl)
      have hdr : S.drop k = S[k] :: S.drop (k + 1) := List.drop_eq_getElem_cons hkl
      obtain ⟨x, hx⟩ : ∃ x, sdOf S[k] = x := ⟨_, rfl⟩
      rw [hx] at hxe hfe
      rw [hxe] at r1 hdr
      obtain ⟨sb, si', sl, ss, sg, sd, stw, sf⟩ := x
      unfold Sd.cells at r1
      simp only [] at hfe
      rw [hdr] at HRD2
      have hof : off + k * kstand.length = off + k * 8 := rfl
      rw [hof] at r1
      have HR1 := Lib.hid r1
      have HDR := Lib.hid hdr
      have HFE := Lib.hid hfe
      clear hcs hxe hx hdr r1 hkl hfe hof
      have hbl : b < wr.heap.size := Nat.lt_of_lt_of_le hb hw.out.size
      have h1 : (0 : Int) ≤ (k : Int) := by omega
      have h2 : (k : Int) < (n : Int) := by omega
      clear hb
      have HBX : Hid ((wr.alloc (.cells #[.string ⟨#[]⟩, .string ⟨#[]⟩, .string ⟨#[]⟩, .int .i64 0, .string ⟨#[]⟩, .int .i64 0, .int .i64 0, .int .i64 0] 112)).heap[wr.heap.size]? = some (.cells #[.string ⟨#[]⟩, .string ⟨#[]⟩, .string ⟨#[]⟩, .int .i64 0, .string ⟨#[]⟩, .int .i64 0, .int .i64 0, .int .i64 0] 112 (0, 0))) := Lib.hid (heap_alloc_new _ _)
      obtain ⟨w1, hw1⟩ : ∃ W, W = (wr.alloc (.cells #[.string ⟨#[]⟩, .string ⟨#[]⟩, .string ⟨#[]⟩, .int .i64 0, .string ⟨#[]⟩, .int .i64 0, .int .i64 0, .int .i64 0] 112)).setRow wr.heap.size #[.string sb, .string si', .string sl, .int .i64 ss, .string sg, .int .i64 sd, .int .i64 stw, .int .i64 sf] := ⟨_, rfl⟩
      have HB1 : Hid (Below wr.heap.size wr w1) := Lib.hid (by rw [hw1]; exact setRow_below ((Below.refl _ _).alloc (Nat.le_refl _) _) (Nat.le_refl _) _)
      have H1 := Lib.hid (hw.out.trans (HB1.out.mono hw.out.size))
      have HQB : Hid (w1.heap[wr.heap.size]? = some (.cells #[.string sb, .string si', .string sl, .int .i64 ss, .string sg, .int .i64 sd, .int .i64 stw, .int .i64 sf] 112 (0, 0))) := Lib.hid (by rw [hw1]; exact setRow_heap _ _ _ _ _ _ HBX.out)
      have HOW1 := Lib.hid (own_below hown.out HB1.out)
      have HW1 := Lib.hid hw1
      clear hw1
      go_upto_region 5 with (first
        | (refine wpList_load_mid rfl 112 (.tmp 15) rfl b (off + k * 8) rfl [.string sb, .string si', .string sl, .int .i64 ss, .string sg, .int .i64 sd, .int .i64 stw, .int .i64 sf] _ HR1.out huS rfl HSS8.out ?_)
        | (refine wpList_store_row rfl 112 (.tmp 9) (.tmp 16) rfl wr.heap.size #[.string sb, .string si', .string sl, .int .i64 ss, .string sg, .int .i64 sd, .int .i64 stw, .int .i64 sf] rfl rfl _ _ HBX.out (HS8.out _ _ _ _ _ _ _ _) rfl (H1R.out _ _ _ _ _ _ _ _) ?_)
        | fail)
      rw [← HW1.out]
      have y4 : w1.cell? ⟨wr.heap.size, 4, none⟩ = some (.string sg) := by rw [cell_of_block HQB.out]; rfl
      have y7 : w1.cell? ⟨wr.heap.size, 7, none⟩ = some (.int .i64 sf) := by rw [cell_of_block HQB.out]; rfl
      have ylt : wr.heap.size < w1.heap.size := lt_of_block HQB.out
      clear hbl h1 h2
      by_cases hq1 : q < 1
      · skip
        have HE : Hid (R = D) := Lib.hid (by rw [HRD2.out, cutS_done _ _ (by omega), List.append_nil])
        rw [← HE.out] at hj hown HOW1
        go_wp2_with fail
        go_ret
        exact ⟨H1.out, A', c', by rw [hj.out]; rfl, Rd.of_own HOW1.out⟩
      · skip
        cases hv : Pl.eqv sg si with
        | false =>
          have hv1 : (sg.toList == si.toList) = false := hv
          have hv2 : (sg.toList != si.toList) = true := by simp only [bne, hv1]; rfl
          have HSU : Hid (R = D ++ cutS si (S.drop (k + 1)) q) := Lib.hid (by rw [HRD2.out, cutS_else _ _ _ (by exact hv)])
          clear hv
          go_wp2_with fail
          go_roundw
          case rel => exact ⟨k + 1, j, c', A', D, q, by omega, by go_num, by omega, rfl, rfl, HQ, hj, HSU, HOW1, H1⟩
          case measure => simp [intOf]; omega
        | true =>
          have hv1 : (sg.toList == si.toList) = true := hv
          have hv2 : (sg.toList != si.toList) = false := by simp only [bne, hv1]; rfl
          obtain ⟨z, hz⟩ : ∃ z, min sf q = z := ⟨_, rfl⟩
          have HZ1 : Hid (1 ≤ z ∧ z ≤ q) := Lib.hid (by have := HFE.out; omega)
          have HSU : Hid (R = (D ++ [[.string sb, .string si', .string sl, .int .i64 ss, .int .i64 z]]) ++ cutS si (S.drop (k + 1)) (q - z)) := Lib.hid (by rw [HRD2.out, cutS_here _ _ _ (by omega) (by exact hv), List.append_assoc]; show D ++ (takeS _ (min sf q) :: cutS si _ (q - min sf q)) = _; rw [hz]; rfl)
          clear hv
          go_upto_region 8 with fail
          clear y4 y7 ylt hv1 hv2
          have HWQ : wrap64 (q - z) = q - z := w64 (by have h1 := HZ1.out; have h2 := HQ.out; unfold Wf at h2; omega) (by have h1 := HZ1.out; have h2 := HQ.out; unfold Wf at h2; omega)
          have HRK : Hid (w1.rangeAt wr.heap.size 0 [.string sb, .string si', .string sl, .int .i64 ss]) := Lib.hid (range_part HQB.out (cs := [.string sb, .string si', .string sl, .int .i64 ss, .string sg, .int .i64 sd, .int .i64 stw, .int .i64 sf]) (pre := []) (post := [.string sg, .int .i64 sd, .int .i64 stw, .int .i64 sf]))
          have HXL : Hid (([.string sb, .string si', .string sl, .int .i64 ss, .int .i64 z] : List Value).length = 5) := Lib.hid rfl
          have HE1 : Hid (∀ u ∈ ([.string sb, .string si', .string sl, .int .i64 ss, .int .i64 z] : List Value), u.oneCell' = true) := Lib.hid (fits_one (ks := kTake) ⟨⟨_, rfl⟩, ⟨_, rfl⟩, ⟨_, rfl⟩, ⟨_, rfl⟩, ⟨_, rfl⟩, trivial⟩)
          have HG1 : Hid (w.heap.size ≤ (w1.alloc (.cells ([.string sb, .string si', .string sl, .int .i64 ss, .int .i64 z] : List Value).toArray 62)).heap.size) := Lib.hid (by have := H1.out.size; simp; omega)
          go_wp2_with (first
            | (refine wpList_load_mid rfl 56 (.tmp 28) rfl wr.heap.size 0 rfl [.string sb, .string si', .string sl, .int .i64 ss] _ HRK.out huk rfl HSK4.out ?_)
            | (refine wpList_buildOne rfl _ 62 _ rfl w1.heap.size rfl _ rfl i0 z0 5 Tryz.underlying44 hi0 hz0 hz1 (by decide) (by decide) [.string sb, .string si', .string sl, .int .i64 ss, .int .i64 z] (by rfl) HXL.out ?_)
            | (at_builtin; refine wpList_app rfl (.tmp 27) (.tmp 32) _ rfl w.heap.size 62 i0 z0 5 i0.bytes Tryz.underlying44 hi0 hz0 hz1 rfl hz2 (by decide) A' j c' _ rfl (HOW1.out.alloc _) (w1.heap.size + 1) (some ⟨w1.heap.size, 0, none⟩) 1 1 [.string sb, .string si', .string sl, .int .i64 ss, .int .i64 z] rfl (by rfl) (rd_one w1 [.string sb, .string si', .string sl, .int .i64 ss, .int .i64 z] _) HE1.out (by simp only [maxLen]; omega) (HBY.out _ (by omega)) HG1.out ?_; intro A5 c5 w6 hown6 hb6; have HO6 := Lib.hid hown6; have HB6 := Lib.hid ((H1.out.alloc H1.out.size _).trans hb6); clear hown6 hb6)
            | fail)
          go_roundw
          case rel => exact ⟨k + 1, j + 1, c5, A5, D ++ [[.string sb, .string si', .string sl, .int .i64 ss, .int .i64 z]], q - z, by omega, by go_num, by omega, rfl, by rw [HWQ], Lib.hid (by have h1 := HZ1.out; have h2 := HQ.out; unfold Wf at h2 ⊢; omega), Lib.hid (by rw [List.length_append, ← hj.out]; rfl), HSU, Lib.hid (by rw [List.flatten_append]; simpa using HO6.out), HB6⟩
          case measure => simp [intOf]; omega
    · have hkn : k = n := by omega
      have HE : Hid (R = D) := Lib.hid (by rw [HRD2.out, List.drop_of_length_le (by rw [hkn, HN.out]; omega)]; simp [cutS])
      rw [← HE.out] at hj hown
      clear hkn
      go_wp2_with fail
      go_ret
      exact ⟨hw.out, A', c', by rw [hj.out]; rfl, Rd.of_own hown.out⟩
end Go.Proofs.YtnkhnbpopdmkhaaGreat
