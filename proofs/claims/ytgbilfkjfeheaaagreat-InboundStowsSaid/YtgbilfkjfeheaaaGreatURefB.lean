/-
 CONTRACTS of the reference's ahead, nearer, shelf. (By wip/tools/gen_uref.py.)
-/
import Derived.Test.YtgbilfkjfeheaaaGreatURefA
import Derived.Test.YtgbilfkjfeheaaaGreatHKept
import Derived.BigQuiet
namespace Go.Proofs.YtgbilfkjfeheaaaGreat
set_option linter.unusedVariables false
open Go.RowKit
open Pl (firstG findG putG It)

set_option maxRecDepth 100000 in
set_option maxHeartbeats 3200000 in
theorem rahead_any (a b : ByteArray) (k : Int) (c d : ByteArray) (j : Int) (w : World) : Calls Tryz.prog 125 #[.agg #[.string a, .string b, .int .i64 k], .agg #[.string c, .string d, .int .i64 j]] w fun e w' => e = .returned (.bool (aheadR ⟨a, b, k⟩ ⟨c, d, j⟩)) ∧ Below w.heap.size w w' := by
 have HB : Hid (Below w.heap.size w ((w.alloc (.cells #[.string a, .string b, .int .i64 k] 98)).alloc (.cells #[.string c, .string d, .int .i64 j] 98))) := Lib.hid (((Below.refl _ _).alloc (Nat.le_refl _) _).alloc (by simp) _)
 obtain ⟨r, hr⟩ : ∃ r, aheadR ⟨a, b, k⟩ ⟨c, d, j⟩ = r := ⟨_, rfl⟩
 obtain ⟨ea, hea⟩ : ∃ z, a.toList.isEmpty = z := ⟨_, rfl⟩
 obtain ⟨ec, hec⟩ : ∃ z, c.toList.isEmpty = z := ⟨_, rfl⟩
 have HA : Hid (r = (decide (k < j) || (!decide (j < k) && ((!ea && ec) || (!(!ec && ea) && Pl.lt b d))))) := Lib.hid (by rw [← hr, ← hea, ← hec]; rfl)
 rw [hr]
 clear hr
 rcases Classical.em (k = j) with h1 | h1
 · subst h1
   cases ea <;> cases ec
   · have HR : Hid (r = Pl.lt b d) := Lib.hid (by rw [HA.out]; simp)
     go_enter Tryz.func125, Tryz.ntmps125
     go_wp2_with fail
     go_ret
     exact ⟨by rw [HR.out]; rfl, HB.out⟩
   · have HR : Hid (r = true) := Lib.hid (by rw [HA.out]; simp)
     go_enter Tryz.func125, Tryz.ntmps125
     go_wp2_with fail
     go_ret
     exact ⟨by rw [HR.out]; rfl, HB.out⟩
   · have HR : Hid (r = false) := Lib.hid (by rw [HA.out]; simp)
     go_enter Tryz.func125, Tryz.ntmps125
     go_wp2_with fail
     go_ret
     exact ⟨by rw [HR.out]; rfl, HB.out⟩
   · have HR : Hid (r = Pl.lt b d) := Lib.hid (by rw [HA.out]; simp)
     go_enter Tryz.func125, Tryz.ntmps125
     go_wp2_with fail
     go_ret
     exact ⟨by rw [HR.out]; rfl, HB.out⟩
 · have h2 : (k != j) = true := by simpa using h1
   have HR : Hid (r = decide (k < j)) := Lib.hid (by
    rw [HA.out]
    by_cases h3 : k < j
    · simp [h3]
    · have h4 : j < k := by omega
      simp [h3, h4])
   clear h1
   go_enter Tryz.func125, Tryz.ntmps125
   go_wp2_with fail
   go_ret
   exact ⟨by rw [HR.out]; rfl, HB.out⟩

set_option maxRecDepth 100000 in
set_option maxHeartbeats 3200000 in
theorem rnearer_any (xc xz : ByteArray) (xk xa xp xv xw : Int) (xf : Bool) (yc yz : ByteArray) (yk ya yp yv yw : Int) (yf : Bool) (w : World) : Calls Tryz.prog 177 #[.agg #[.string xc, .string xz, .int .i64 xk, .int .i64 xa, .int .i64 xp, .int .i64 xv, .int .i64 xw, .bool xf], .agg #[.string yc, .string yz, .int .i64 yk, .int .i64 ya, .int .i64 yp, .int .i64 yv, .int .i64 yw, .bool yf]] w fun e w' => e = .returned (.bool (nearB (Bn.mk xc xz xk xa xp xv xw xf) (Bn.mk yc yz yk ya yp yv yw yf))) ∧ Below w.heap.size w w' := by
 have HB : Hid (Below w.heap.size w ((w.alloc (.cells #[.string xc, .string xz, .int .i64 xk, .int .i64 xa, .int .i64 xp, .int .i64 xv, .int .i64 xw, .bool xf] 64)).alloc (.cells #[.string yc, .string yz, .int .i64 yk, .int .i64 ya, .int .i64 yp, .int .i64 yv, .int .i64 yw, .bool yf] 64))) := Lib.hid (((Below.refl _ _).alloc (Nat.le_refl _) _).alloc (by simp) _)
 obtain ⟨r, hr⟩ : ∃ r, nearB (Bn.mk xc xz xk xa xp xv xw xf) (Bn.mk yc yz yk ya yp yv yw yf) = r := ⟨_, rfl⟩
 have HA : Hid (r = (decide (xa < ya) || (!decide (ya < xa) && (decide (xp < yp) || (!decide (yp < xp) && Pl.lt xc yc))))) := Lib.hid (by rw [← hr]; rfl)
 rw [hr]
 clear hr
 rcases Classical.em (xa = ya) with h1 | h1
 · subst h1
   rcases Classical.em (xp = yp) with h2 | h2
   · subst h2
     have HR : Hid (r = Pl.lt xc yc) := Lib.hid (by rw [HA.out]; simp)
     go_enter Tryz.func177, Tryz.ntmps177
     go_wp2_with fail
     go_ret
     exact ⟨by rw [HR.out]; rfl, HB.out⟩
   · have h3 : (xp != yp) = true := by simpa using h2
     have HR : Hid (r = decide (xp < yp)) := Lib.hid (by
      rw [HA.out]
      by_cases h4 : xp < yp
      · simp [h4]
      · have h5 : yp < xp := by omega
        simp [h4, h5])
     clear h2
     go_enter Tryz.func177, Tryz.ntmps177
     go_wp2_with fail
     go_ret
     exact ⟨by rw [HR.out]; rfl, HB.out⟩
 · have h3 : (xa != ya) = true := by simpa using h1
   have HR : Hid (r = decide (xa < ya)) := Lib.hid (by
    rw [HA.out]
    by_cases h4 : xa < ya
    · simp [h4]
    · have h5 : ya < xa := by omega
      simp [h4, h5])
   clear h1
   go_enter Tryz.func177, Tryz.ntmps177
   go_wp2_with fail
   go_ret
   exact ⟨by rw [HR.out]; rfl, HB.out⟩

set_option maxRecDepth 100000 in
set_option maxHeartbeats 6400000 in
theorem rshelf_any (h : Hs) (L : Nat → List (List Value)) (zn st it : ByteArray) (n : Int) (w : World) (hh : HT h L w) :
 Calls Tryz.prog 126 #[.agg h.cells, .string zn, .string st, .string it, .int .i64 n] w fun e w' => e = .returned (.tuple #[.string ((shelfT (L 0) (L 2) (L 3) (L 4) zn st it n).getD ⟨#[]⟩), .bool (shelfT (L 0) (L 2) (L 3) (L 4) zn st it n).isSome]) ∧ Below w.heap.size w w' := by
 have HHT := Lib.hid hh
 have hn9 := (hh 3 (by decide)).2.1
 obtain ⟨m, hmm⟩ : ∃ m, h.n 3 = m := ⟨_, rfl⟩
 have HNM : Hid (m = (L 3).length) := Lib.hid (by rw [← hmm]; exact (hh 3 (by decide)).1)
 rw [hmm] at hn9
 have HMM := Lib.hid hmm
 obtain ⟨be, hbe⟩ : ∃ be : Nat → Option Nat, be = bestB (L 0) (L 2) (L 3) (L 4) zn st it n := ⟨_, rfl⟩
 have HN : Hid (∀ k, takesB (L 0) (L 2) (L 3) (L 4) zn st it n (bnA (L 3) k) = false → be (k + 1) = be k) := Lib.hid (fun k hk => by rw [hbe]; exact Pl.best_no hk)
 have HF : Hid (∀ k, takesB (L 0) (L 2) (L 3) (L 4) zn st it n (bnA (L 3) k) = true → be k = none → be (k + 1) = some k) := Lib.hid (fun k hk hb => by rw [hbe] at hb ⊢; exact Pl.best_first hk hb)
 have HLS : Hid (∀ k j, takesB (L 0) (L 2) (L 3) (L 4) zn st it n (bnA (L 3) k) = true → be k = some j → be (k + 1) = if nearB (bnA (L 3) k) (bnA (L 3) j) = true then some k else some j) := Lib.hid (fun k j hk hb => by
  rw [hbe] at hb ⊢
  by_cases hl : nearB (bnA (L 3) k) (bnA (L 3) j) = true
  · rw [if_pos hl]; exact Pl.best_less hk hb hl
  · rw [if_neg hl]; exact Pl.best_keep hk hb (by simpa using hl))
 have HLT : Hid (∀ k j, be k = some j → j < k) := Lib.hid (fun k j hb => by rw [hbe] at hb; exact (Pl.best_lt hb).1)
 have HB0 : be 0 = none := by rw [hbe]; rfl
 have HR : Hid (shelfT (L 0) (L 2) (L 3) (L 4) zn st it n = (be m).map fun i => (bnA (L 3) i).code) := Lib.hid (by rw [hbe, HNM.out]; rfl)
 obtain ⟨sr, hsr⟩ : ∃ z, shelfT (L 0) (L 2) (L 3) (L 4) zn st it n = z := ⟨_, rfl⟩
 rw [hsr] at HR
 rw [hsr]
 clear hsr hbe hmm
 have CS : Hid (∀ s W, HT h L W → Calls Tryz.prog 86 #[.agg h.cells, .string s] W fun e w' => e = .returned (.string (siteT (L 2) (L 3) s)) ∧ Below W.heap.size W w') := Lib.hid (fun s W hW => rsite_any h L s W hW)
 have CF : Hid (∀ s W, HT h L W → Calls Tryz.prog 77 #[.agg h.cells, .string s, .string it, .int .i64 n] W fun e w' => e = .returned (.int .i64 (roomE (L 0) (L 3) (L 4) s it n : Nat)) ∧ Below W.heap.size W w') := Lib.hid (fun s W hW => rfitsr_any h L s it n W hW)
 have HSHL : Hid (∀ a : Hs, (Tryz.prog.info? 37).map (·.size) = some a.cells.toList.length) := Lib.hid (fun a => by kernel_rfl)
 have HS8 : Hid ((Tryz.prog.info? 64).map (·.size) = some 8) := Lib.hid (by kernel_rfl)
 have hub := Tryz.underlying64
 obtain ⟨W0, hW0⟩ : ∃ W0, W0 = (w.alloc (.cells h.cells 37)) := ⟨_, rfl⟩
 have hb0 : Below w.heap.size w W0 := by rw [hW0]; exact (Below.refl _ _).alloc (Nat.le_refl _) _
 have hs0 : W0.heap.size = w.heap.size + 1 := by rw [hW0]; simp
 have HH : Hid (∀ W, Below W0.heap.size W0 W → W.heap[w.heap.size]? = some (.cells h.cells 37 (0, 0))) := Lib.hid (fun W hW => (hW.block _ (by omega)).trans (by
  rw [hW0]
  have hq := heap_alloc_new w (.cells h.cells 37)
  exact (by simpa using hq)))
 have HBW : Hid (∀ W, Below W0.heap.size W0 W → Below w.heap.size w W ∧ w.heap.size + 1 ≤ W.heap.size) := Lib.hid (fun W hW => ⟨hb0.trans (hW.mono (by omega)), by have := hW.size; omega⟩)
 have huh := Tryz.underlying37
 have HSH : Hid (∀ a : Hs, (Tryz.prog.info? 37).map (·.size) = some a.cells.size) := Lib.hid (fun a => by kernel_rfl)
 have HL3 : Hid (∀ W, Below W0.heap.size W0 W → W.cell? ⟨w.heap.size, 3, none⟩ = some (.slice (h.A 3) m (h.c 3)) ∧ w.heap.size < W.heap.size) := Lib.hid (fun W hW => ⟨by rw [cell_of_block (HH.out W hW), ← HMM.out]; rfl, by have := hW.size; omega⟩)
 have H0 := Lib.hid (Below.refl W0.heap.size W0)
 clear hb0 hs0 hh
 subst hW0
 go_enter Tryz.func126, Tryz.ntmps126
 go_wp2_with fail
 go_loopw [12, 13] (fun v i wr => ∃ k : Nat, k ≤ m ∧ v = .int .i64 (Pl.atI (be k)) ∧ i = .int .i64 (k : Int) ∧ Hid (Below (w.alloc (.cells h.cells 37)).heap.size (w.alloc (.cells h.cells 37)) wr)) (fun _ i _ => m - (intOf i).toNat)
 case atStart => exact ⟨0, by omega, by rw [HB0]; rfl, rfl, H0⟩
 case round =>
  obtain ⟨k, hk, rfl, rfl, hw⟩ := hrel
  obtain ⟨d3, dlt⟩ := HL3.out _ hw.out
  obtain ⟨q, hq⟩ : ∃ q, be k = q := ⟨_, rfl⟩
  rw [hq]
  have HQ := Lib.hid hq
  obtain ⟨za, hza⟩ : ∃ z, Pl.atI q = z := ⟨_, rfl⟩
  rw [hza]
  have HZA := Lib.hid hza
  clear hq hza
  by_cases hlt : k < m
  · have hkl : k < (L 3).length := by rw [← HNM.out]; exact hlt
    have HTR : Hid (HT h L wr) := Lib.hid (HHT.out.below (HBW.out _ hw.out).1)
    obtain ⟨b, off, hA, hb, r1⟩ := bin_at HTR.out hkl
    obtain ⟨x, hx⟩ : ∃ x, bnA (L 3) k = x := ⟨_, rfl⟩
    have HXE := Lib.hid hx
    rw [hx] at r1
    obtain ⟨xc, xz, xk, xa, xp, xv, xw, xf⟩ := x
    have HRE : Hid (wr.rangeAt b (off + k * 8) [.string xc, .string xz, .int .i64 xk, .int .i64 xa, .int .i64 xp, .int .i64 xv, .int .i64 xw, .bool xf]) := Lib.hid r1
    have HAB := Lib.hid hA
    obtain ⟨ss, hss⟩ : ∃ z, siteT (L 2) (L 3) xc = z := ⟨_, rfl⟩
    obtain ⟨fr, hfr⟩ : ∃ z, roomE (L 0) (L 3) (L 4) xc it n = z := ⟨_, rfl⟩
    have HTK : Hid (takesB (L 0) (L 2) (L 3) (L 4) zn st it n (bnA (L 3) k) = (xk == 1 && !xf && Pl.eqv xz zn && Pl.eqv ss st && decide (fr = 0))) := Lib.hid (by rw [hx, ← hss, ← hfr]; rfl)
    obtain ⟨w1, hw1⟩ : ∃ w1, w1 = wr.alloc (.cells #[.string xc, .string xz, .int .i64 xk, .int .i64 xa, .int .i64 xp, .int .i64 xv, .int .i64 xw, .bool xf] 64) := ⟨_, rfl⟩
    have hb1 : Below wr.heap.size wr w1 := by rw [hw1]; exact (Below.refl _ _).alloc (Nat.le_refl _) _
    have HX1 : Hid (w1.heap[wr.heap.size]? = some (.cells #[.string xc, .string xz, .int .i64 xk, .int .i64 xa, .int .i64 xp, .int .i64 xv, .int .i64 xw, .bool xf] 64 (0, 0))) := Lib.hid (by rw [hw1]; exact heap_alloc_new _ _)
    have HW1 := Lib.hid hw1
    have HB1 := Lib.hid (hw.out.trans (hb1.mono hw.out.size))
    have HT1 := Lib.hid (HTR.out.below hb1)
    have HBR := Lib.hid hb1
    have CS1 : Hid (∀ W, HT h L W → Calls Tryz.prog 86 #[.agg h.cells, .string xc] W fun e w' => e = .returned (.string ss) ∧ Below W.heap.size W w') := Lib.hid (fun W hW => by rw [← hss]; exact CS.out xc W hW)
    have CF1 : Hid (∀ W, HT h L W → Calls Tryz.prog 77 #[.agg h.cells, .string xc, .string it, .int .i64 n] W fun e w' => e = .returned (.int .i64 (fr : Nat)) ∧ Below W.heap.size W w') := Lib.hid (fun W hW => by rw [← hfr]; exact CF.out xc W hW)
    have h1 : (0 : Int) ≤ (k : Int) := by omega
    have h2 : (k : Int) < (m : Int) := by omega
    rw [hA] at d3
    have HBL := Lib.hid hb
    clear hw1 hb1 r1 hx hkl hA hss hfr
    go_upto_region 6 with (first
     | (refine wpList_load_mid rfl 64 (.tmp 25) rfl b (off + k * 8) rfl [.string xc, .string xz, .int .i64 xk, .int .i64 xa, .int .i64 xp, .int .i64 xv, .int .i64 xw, .bool xf] _ HRE.out hub rfl HS8.out ?_)
     | fail)
    rw [← HW1.out]
    clear d3 dlt
    have y0 : w1.cell? ⟨wr.heap.size, 0, none⟩ = some (.string xc) := by rw [cell_of_block HX1.out]; rfl
    have y1 : w1.cell? ⟨wr.heap.size, 1, none⟩ = some (.string xz) := by rw [cell_of_block HX1.out]; rfl
    have y2 : w1.cell? ⟨wr.heap.size, 2, none⟩ = some (.int .i64 xk) := by rw [cell_of_block HX1.out]; rfl
    have y7 : w1.cell? ⟨wr.heap.size, 7, none⟩ = some (.bool xf) := by rw [cell_of_block HX1.out]; rfl
    have ylt : wr.heap.size < w1.heap.size := lt_of_block HX1.out
    rcases Classical.em (xk = 1) with hk1 | hk1
    ·
     subst hk1
     cases xf with
     | true =>
      have HV : Hid (be (k + 1) = q) := Lib.hid ((HN.out k (by rw [HTK.out]; simp)).trans HQ.out)
      go_wp2_with fail
      go_roundw
      case rel => exact ⟨k + 1, by omega, by rw [HV.out, HZA.out], by go_num, HB1⟩
      case measure => simp [intOf]; omega
     | false =>
      cases hez : Pl.eqv xz zn with
      | false =>
       have hfz : (xz.toList == zn.toList) = false := hez
       have hgz : (xz.toList != zn.toList) = true := by rw [bne, hfz]; rfl
       have HEz := Lib.hid hez
       clear hez
       have HV : Hid (be (k + 1) = q) := Lib.hid ((HN.out k (by rw [HTK.out]; simp [HEz.out])).trans HQ.out)
       go_wp2_with fail
       go_roundw
       case rel => exact ⟨k + 1, by omega, by rw [HV.out, HZA.out], by go_num, HB1⟩
       case measure => simp [intOf]; omega
      | true =>
       have hfz : (xz.toList == zn.toList) = true := hez
       have hgz : (xz.toList != zn.toList) = false := by rw [bne, hfz]; rfl
       have HEz := Lib.hid hez
       clear hez
       go_wp2_with (first
        | (refine BigFrame.wpList_want (by kernel_rfl) (fun K hK => Go.wp_load_mid 37 (.tmp 5) rfl w.heap.size 0 rfl h.cells.toList _ (range_row0 (HH.out _ HB1.out)) huh rfl (HSHL.out _) (hK _ _ ?_)); clear hK K)
        | fail)
       refine (CS1.out _ HT1.out).mono ?_
       rintro e w2 ⟨rfl, hb2⟩
       have HB2 := Lib.hid (HB1.out.trans (hb2.mono HB1.out.size))
       have HX2 := Lib.hid ((hb2.block _ (lt_of_block HX1.out)).trans HX1.out)
       have HT2 := Lib.hid (HT1.out.below hb2)
       have HBR2 := Lib.hid (HBR.out.trans (hb2.mono HBR.out.size))
       clear hb2 y0 y1 y2 y7 ylt
       have y0 : w2.cell? ⟨wr.heap.size, 0, none⟩ = some (.string xc) := by rw [cell_of_block HX2.out]; rfl
       have ylt : wr.heap.size < w2.heap.size := lt_of_block HX2.out
       cases hes : Pl.eqv ss st with
       | false =>
        have hfs : (ss.toList == st.toList) = false := hes
        have hgs : (ss.toList != st.toList) = true := by rw [bne, hfs]; rfl
        have HEs := Lib.hid hes
        clear hes
        have HV : Hid (be (k + 1) = q) := Lib.hid ((HN.out k (by rw [HTK.out]; simp [HEz.out, HEs.out])).trans HQ.out)
        go_wp2_with fail
        go_roundw
        case rel => exact ⟨k + 1, by omega, by rw [HV.out, HZA.out], by go_num, HB2⟩
        case measure => simp [intOf]; omega
       | true =>
        have hfs : (ss.toList == st.toList) = true := hes
        have hgs : (ss.toList != st.toList) = false := by rw [bne, hfs]; rfl
        have HEs := Lib.hid hes
        clear hes
        go_wp2_with (first
         | (refine BigFrame.wpList_want (by kernel_rfl) (fun K hK => Go.wp_load_mid 37 (.tmp 5) rfl w.heap.size 0 rfl h.cells.toList _ (range_row0 (HH.out _ HB2.out)) huh rfl (HSHL.out _) (hK _ _ ?_)); clear hK K)
         | fail)
        refine (CF1.out _ HT2.out).mono ?_
        rintro e w3 ⟨rfl, hb3⟩
        have HB3 := Lib.hid (HB2.out.trans (hb3.mono HB2.out.size))
        have HX3 := Lib.hid ((hb3.block _ (lt_of_block HX2.out)).trans HX2.out)
        have HT3 := Lib.hid (HT2.out.below hb3)
        have HR3 : Hid (wr.heap.size < w3.heap.size ∧ Below wr.heap.size wr w3) := Lib.hid ⟨lt_of_block HX3.out, HBR2.out.trans (hb3.mono HBR2.out.size)⟩
        clear hb3 y0 ylt
        by_cases hf0 : fr = 0
        ·
         subst hf0
         have HTT : Hid (takesB (L 0) (L 2) (L 3) (L 4) zn st it n (bnA (L 3) k) = true) := Lib.hid (by rw [HTK.out, HEz.out, HEs.out]; rfl)
         cases q with
         | none =>
          obtain rfl : za = -1 := by rw [← HZA.out]; rfl
          have HV : Hid (be (k + 1) = some k) := Lib.hid (HF.out k HTT.out HQ.out)
          go_wp2_with fail
          go_quiet (fail)
          go_wp2_with fail
          go_roundw
          case rel => exact ⟨k + 1, by omega, by rw [HV.out]; rfl, by go_num, Lib.hid (below_drewN HB3.out _)⟩
          case measure => simp [intOf]; omega
         | some j =>
          obtain rfl : za = (j : Int) := by rw [← HZA.out]; rfl
          have hjk := HLT.out k j HQ.out
          have hj1 : (0 : Int) ≤ (j : Int) := by omega
          have hj2 : (j : Int) < (m : Int) := by omega
          have hj3 : decide ((j : Int) < 0) = false := by simp
          clear HZA
          obtain ⟨b2, off2, hA2, hb2, r2⟩ := bin_at HTR.out (k := j) (by rw [← HNM.out]; omega)
          rw [HAB.out] at hA2
          have hA3 : b = b2 ∧ off = off2 := by injection hA2 with h3; injection h3 with h4 h5 _; exact ⟨h4, h5⟩
          obtain ⟨rfl, rfl⟩ := hA3
          clear hA2 hb2
          have HLJ := Lib.hid (HLS.out k j HTT.out HQ.out)
          obtain ⟨y, hy⟩ : ∃ y, bnA (L 3) j = y := ⟨_, rfl⟩
          rw [hy] at r2 HLJ
          rw [HXE.out] at HLJ
          obtain ⟨yc, yz, yk, ya, yp, yv, yw, yf⟩ := y
          obtain ⟨nb, hnb⟩ : ∃ z, nearB (Bn.mk xc xz 1 xa xp xv xw false) (Bn.mk yc yz yk ya yp yv yw yf) = z := ⟨_, rfl⟩
          rw [hnb] at HLJ
          have CX : Hid (∀ X : BW w3, Calls Tryz.prog 177 #[.agg #[.string xc, .string xz, .int .i64 1, .int .i64 xa, .int .i64 xp, .int .i64 xv, .int .i64 xw, .bool false], .agg #[.string yc, .string yz, .int .i64 yk, .int .i64 ya, .int .i64 yp, .int .i64 yv, .int .i64 yw, .bool yf]] X.W fun e w' => e = .returned (.bool nb) ∧ Below X.W.heap.size X.W w') := Lib.hid (fun X => by rw [← hnb]; exact rnearer_any _ _ _ _ _ _ _ _ _ _ _ _ _ _ _ _ _)
          have RX : Hid (∀ X : BW w3, X.W.heap[wr.heap.size]? = some (.cells #[.string xc, .string xz, .int .i64 1, .int .i64 xa, .int .i64 xp, .int .i64 xv, .int .i64 xw, .bool false] 64 (0, 0))) := Lib.hid (fun X => (X.h.block _ (lt_of_block HX3.out)).trans HX3.out)
          have RY : Hid (∀ X : BW w3, X.W.rangeAt b (off + j * 8) [.string yc, .string yz, .int .i64 yk, .int .i64 ya, .int .i64 yp, .int .i64 yv, .int .i64 yw, .bool yf]) := Lib.hid (fun X => rangeAt_below r2 HBL.out (HR3.out.2.trans (X.h.mono (Nat.le_of_lt HR3.out.1))))
          have x3 : ∀ X : BW w3, X.W.cell? ⟨w.heap.size, 3, none⟩ = some (.slice (some ⟨b, off, none⟩) m (h.c 3)) := fun X => by have := (HL3.out _ (HB3.out.trans (X.h.mono HB3.out.size))).1; rwa [HAB.out] at this
          clear r2 hnb hy
          go_wp2_with fail
          refine wp_grow w3 (by kernel_rfl) (by kernel_rfl) (Below.refl _ _) ?_
          simp only []
          iterate 3 go_big_quiet_step (fail)
          refine BigFrame.wpQuiet_want (by kernel_rfl) (fun K hK => quiet_load_mid 64 (.tmp 14) rfl wr.heap.size 0 rfl [.string xc, .string xz, .int .i64 1, .int .i64 xa, .int .i64 xp, .int .i64 xv, .int .i64 xw, .bool false] _ (fun W ⟨X, hX⟩ => by rw [hX]; exact range_row0 (RX.out X)) hub rfl HS8.out (hK _ ?_))
          simp only [ax]
          iterate 4 go_big_quiet_step (fail)
          refine BigFrame.wpQuiet_want (by kernel_rfl) (fun K hK => quiet_load_mid 64 (.tmp 64) rfl b (off + j * 8) rfl [.string yc, .string yz, .int .i64 yk, .int .i64 ya, .int .i64 yp, .int .i64 yv, .int .i64 yw, .bool yf] _ (fun W ⟨X, hX⟩ => by rw [hX]; exact RY.out X) hub rfl HS8.out (hK _ ?_))
          simp only [ax]
          go_big_quiet_step (exact grow_call _ (CX.out _))
          go_big_quiet_step (fail)
          refine wpQuiet_nil ?_
          intro X
          clear x3
          obtain ⟨w6, hb6⟩ := X
          simp only []
          have H6 := Lib.hid (HB3.out.trans (hb6.mono HB3.out.size))
          clear hb6 CX RX RY
          cases nb with
          | true =>
           go_wp2_with fail
           go_roundw
           case rel => exact ⟨k + 1, by omega, by rw [HLJ.out]; rfl, by go_num, H6⟩
           case measure => simp [intOf]; omega
          | false =>
           go_wp2_with fail
           go_roundw
           case rel => exact ⟨k + 1, by omega, by rw [HLJ.out]; rfl, by go_num, H6⟩
           case measure => simp [intOf]; omega
        ·
         have hf1 : ((fr : Int) != 0) = true := by simpa using hf0
         have HF0 := Lib.hid hf0
         clear hf0
         have HV : Hid (be (k + 1) = q) := Lib.hid ((HN.out k (by rw [HTK.out]; simp [HEz.out, HEs.out, HF0.out])).trans HQ.out)
         go_wp2_with fail
         go_roundw
         case rel => exact ⟨k + 1, by omega, by rw [HV.out, HZA.out], by go_num, HB3⟩
         case measure => simp [intOf]; omega
    ·
     have hk2 : (xk != 1) = true := by simpa using hk1
     have HK1 := Lib.hid hk1
     clear hk1
     have HV : Hid (be (k + 1) = q) := Lib.hid ((HN.out k (by rw [HTK.out]; simp [HK1.out])).trans HQ.out)
     go_wp2_with fail
     go_roundw
     case rel => exact ⟨k + 1, by omega, by rw [HV.out, HZA.out], by go_num, HB1⟩
     case measure => simp [intOf]; omega
  · have hkm : k = m := by omega
    subst hkm
    rw [HQ.out] at HR
    cases q with
    | none =>
     obtain rfl : za = -1 := by rw [← HZA.out]; rfl
     go_wp2_with fail
     go_ret2
     exact ⟨by rw [HR.out]; rfl, (HBW.out _ hw.out).1⟩
    | some j =>
     obtain rfl : za = (j : Int) := by rw [← HZA.out]; rfl
     have hjk := HLT.out k j HQ.out
     have hj1 : (0 : Int) ≤ (j : Int) := by omega
     have hj2 : (j : Int) < (k : Int) := by omega
     have HTR : HT h L wr := HHT.out.below (HBW.out _ hw.out).1
     obtain ⟨b, off, hA, hb, r1⟩ := bin_at HTR (k := j) (by rw [← HNM.out]; omega)
     obtain ⟨y, hy⟩ : ∃ y, bnA (L 3) j = y := ⟨_, rfl⟩
     have HYE := Lib.hid hy
     rw [hy] at r1
     obtain ⟨yc, yz, yk, ya, yp, yv, yw, yf⟩ := y
     have z0 : wr.cell? ⟨b, off + j * 8, none⟩ = some (.string yc) := by have := r1 0 (.string yc) rfl; simpa using this
     have hj3 : decide ((j : Int) < 0) = false := by simp
     clear HZA
     rw [hA] at d3
     have HRV : Hid (sr = some yc) := Lib.hid (by rw [HR.out]; show some (bnA (L 3) j).code = _; rw [HYE.out])
     clear r1 hy hA HTR
     go_wp2_with fail
     go_ret2
     exact ⟨by rw [HRV.out]; rfl, (HBW.out _ hw.out).1⟩

end Go.Proofs.YtgbilfkjfeheaaaGreat
