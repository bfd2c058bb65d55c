/-
 CONTRACT of the code's lots.Fits. (By wip/tools/port14c.py.)
-/
import Derived.Test.YtgbilfkjfeheaaaGreatOPl
import Derived.Test.YtgbilfkjfeheaaaGreatKP
import Derived.Test.YtgbilfkjfeheaaaGreatKF
import Derived.Test.YtgbilfkjfeheaaaGreatJHead
import Derived.BigQuiet
import Derived.Deep.RegionHeld3
namespace Go.Proofs.YtgbilfkjfeheaaaGreat
set_option linter.unusedVariables false
open Go.RowKit
set_option linter.unusedVariables false
open Go.RowKit
open Pl (firstG findG)

theorem lor_any (A : Option Addr) (y z : Int) (c : Nat) (w : World) (hA : ∃ b, A = some ⟨b, 0, none⟩ ∧ w.heap[b]? = some (.cells #[.int .i64 y, .int .i64 z] 3 (0, 0))) : Calls Tryz.prog 156 #[.slice A 2 c] w fun e w' => e = .returned (.int .i64 (if y = 0 then z else y)) ∧ w' = w := by
 obtain ⟨b, rfl, hb⟩ := hA
 have c0 : w.cell? ⟨b, 0, none⟩ = some (.int .i64 y) := by rw [cell_of_block hb]; rfl
 have c1 : w.cell? ⟨b, 1, none⟩ = some (.int .i64 z) := by rw [cell_of_block hb]; rfl
 have hl : b < w.heap.size := lt_of_block hb
 clear hb
 go_enter Tryz.func156, Tryz.ntmps156
 obtain ⟨r, hr⟩ : ∃ r, (if y = 0 then z else y) = r := ⟨_, rfl⟩
 rw [hr]
 have HR := Lib.hid hr
 clear hr
 go_wp2_with fail
 go_loopw [8] (fun kv wr => ∃ k : Nat, k ≤ 2 ∧ kv = .int .i64 (k : Int) ∧ Hid (1 ≤ k → y = 0) ∧ Hid (2 ≤ k → z = 0) ∧ Hid (wr = w)) (fun kv _ => 2 - (intOf kv).toNat)
 case atStart => exact ⟨0, by omega, rfl, Lib.hid (by omega), Lib.hid (by omega), Lib.hid (by first | rfl | trivial)⟩
 case round =>
  obtain ⟨k, hk, rfl, h1, h2, hw⟩ := hrel
  obtain rfl := hw.out
  have hk3 : k = 0 ∨ k = 1 ∨ k = 2 := by omega
  rcases hk3 with rfl | rfl | rfl
  · by_cases hy : y = 0
    · have HY0 := Lib.hid hy
      go_wp2_with fail
      go_roundw
      case rel => exact ⟨1, by omega, rfl, Lib.hid (fun _ => HY0.out), Lib.hid (by omega), Lib.hid (by first | rfl | trivial)⟩
      case measure => simp [intOf]
    · have hy' : (y != 0) = true := by simpa using hy
      have HV : Hid (r = y) := Lib.hid (by rw [← HR.out, if_neg hy])
      clear hy
      go_wp2_with fail
      go_ret
      exact ⟨by rw [HV.out]; rfl, rfl⟩
  · have HY0 := Lib.hid (h1.out (by omega))
    by_cases hz : z = 0
    · have HZ0 := Lib.hid hz
      go_wp2_with fail
      go_roundw
      case rel => exact ⟨2, by omega, rfl, Lib.hid (fun _ => HY0.out), Lib.hid (fun _ => HZ0.out), Lib.hid (by first | rfl | trivial)⟩
      case measure => simp [intOf]
    · have hz' : (z != 0) = true := by simpa using hz
      have HV : Hid (r = z) := Lib.hid (by rw [← HR.out, if_pos HY0.out])
      clear hz
      go_wp2_with fail
      go_ret
      exact ⟨by rw [HV.out]; rfl, rfl⟩
  · have HV : Hid (r = 0) := Lib.hid (by rw [← HR.out, if_pos (h1.out (by omega)), h2.out (by omega)])
    go_wp2_with fail
    go_ret
    exact ⟨by rw [HV.out]; rfl, rfl⟩
set_option maxRecDepth 100000 in
theorem orderL_any (x y : List Value) (w : World) (hx : Fits kLot x) (hy : Fits kLot y) : Calls Tryz.prog 213 #[.agg x.toArray, .agg y.toArray] w fun e w' => e = .returned (.int .i64 (ordL x y)) ∧ Below w.heap.size w w' := by
 have hxr := lot_cells hx
 have hyr := lot_cells hy
 have HV : Hid (ordL x y = if Pl.cmp (itemL x) (itemL y) = 0 then Pl.cmp (codeL x) (codeL y) else Pl.cmp (itemL x) (itemL y)) := Lib.hid rfl
 obtain ⟨a, ha⟩ : ∃ s, itemL x = s := ⟨_, rfl⟩
 obtain ⟨b, hb⟩ : ∃ s, codeL x = s := ⟨_, rfl⟩
 obtain ⟨c, hc⟩ : ∃ s, itemL y = s := ⟨_, rfl⟩
 obtain ⟨d, hd⟩ : ∃ s, codeL y = s := ⟨_, rfl⟩
 obtain ⟨z, hz⟩ : ∃ s, expL x = s := ⟨_, rfl⟩
 obtain ⟨u, hu⟩ : ∃ s, expL y = s := ⟨_, rfl⟩
 rw [ha, hb, hc, hd] at HV
 rw [ha, hb, hz] at hxr
 rw [hc, hd, hu] at hyr
 clear ha hb hc hd hz hu hx hy
 obtain ⟨v, hv⟩ : ∃ v, ordL x y = v := ⟨_, rfl⟩
 rw [hv] at HV ⊢
 clear hv
 subst hxr hyr
 go_enter Tryz.func213, Tryz.ntmps213
 obtain ⟨W0, hW0⟩ : ∃ W0, W0 = (w.alloc (.cells #[.string a, .string b, .int .i64 z] 90)).alloc (.cells #[.string c, .string d, .int .i64 u] 90) := ⟨_, rfl⟩
 have hb0 : Below w.heap.size w W0 := by rw [hW0]; exact ((Below.refl _ _).alloc (Nat.le_refl _) _).alloc (by simp) _
 have hs0 : W0.heap.size = w.heap.size + 2 := by rw [hW0]; simp
 have HST : Hid (∀ W, Below W0.heap.size W0 W → W.cell? ⟨w.heap.size, 0, none⟩ = some (.string a) ∧ W.cell? ⟨w.heap.size, 1, none⟩ = some (.string b) ∧ W.cell? ⟨w.heap.size + 1, 0, none⟩ = some (.string c) ∧ W.cell? ⟨w.heap.size + 1, 1, none⟩ = some (.string d)) := Lib.hid (fun W hW => by
  have h1 : W.heap[w.heap.size]? = some (.cells #[.string a, .string b, .int .i64 z] 90 (0, 0)) := (hW.block _ (by omega)).trans (by rw [hW0]; exact (Below.heap_alloc _ _ _ (by simp)).trans (heap_alloc_new _ _))
  have h2 : W.heap[w.heap.size + 1]? = some (.cells #[.string c, .string d, .int .i64 u] 90 (0, 0)) := (hW.block _ (by omega)).trans (by
   rw [hW0]
   have := heap_alloc_new (w.alloc (.cells #[.string a, .string b, .int .i64 z] 90)) (.cells #[.string c, .string d, .int .i64 u] 90)
   simpa using this)
  exact ⟨by rw [cell_of_block h1]; rfl, by rw [cell_of_block h1]; rfl, by rw [cell_of_block h2]; rfl, by rw [cell_of_block h2]; rfl⟩)
 have HB0 := Lib.hid hb0
 have BN := Lib.hid ((Below.refl W0.heap.size W0).drew)
 clear hb0
 go_wp2_with fail
 rw [← hW0]
 clear hW0 hs0
 have ST0 := HST.out _ BN.out
 refine wp_region_noPanic ?_
 refine wp_region_held_drew (S := (fun W => W.cell? ⟨w.heap.size, 0, none⟩ = some (.string a) ∧ W.cell? ⟨w.heap.size, 1, none⟩ = some (.string b) ∧ W.cell? ⟨w.heap.size + 1, 0, none⟩ = some (.string c) ∧ W.cell? ⟨w.heap.size + 1, 1, none⟩ = some (.string d))) (by kernel_rfl) ST0 (fun dd0 => ?_)
 refine tkE 0 (.pointer (some ⟨w.heap.size, 0, none⟩)) rfl ?_
 (try simp only [ax])
 refine tkF 1 (.string a) rfl (.inl ⟨by kernel_rfl, fun w hw => by obtain ⟨hc0, hc1, hc2, hc3⟩ := hw; go_simp⟩) ?_
 (try simp only [ax])
 refine tkE 2 (.pointer (some ⟨w.heap.size + 1, 0, none⟩)) rfl ?_
 (try simp only [ax])
 refine tkF 3 (.string c) rfl (.inl ⟨by kernel_rfl, fun w hw => by obtain ⟨hc0, hc1, hc2, hc3⟩ := hw; go_simp⟩) ?_
 (try simp only [ax])
 refine tkE 5 (.pointer (some ⟨w.heap.size, 1, none⟩)) rfl ?_
 (try simp only [ax])
 refine tkF 6 (.string b) rfl (.inl ⟨by kernel_rfl, fun w hw => by obtain ⟨hc0, hc1, hc2, hc3⟩ := hw; go_simp⟩) ?_
 (try simp only [ax])
 refine tkE 7 (.pointer (some ⟨w.heap.size + 1, 1, none⟩)) rfl ?_
 (try simp only [ax])
 refine tkF 8 (.string d) rfl (.inl ⟨by kernel_rfl, fun w hw => by obtain ⟨hc0, hc1, hc2, hc3⟩ := hw; go_simp⟩) ?_
 (try simp only [ax])
 refine wpAnyH_ready (rs := [4]) (by kernel_rfl) (by simp) ?_
 refine AllReadyH.cons rfl (fun K' hK => ?_) AllReadyH.nil
 go_simp
 refine (compare_any a c _).mono ?_
 rintro e wn ⟨rfl, rfl⟩
 refine hK.out _ _ (HST.out _ BN.out) (fun _ => ?_)
 clear hK K'
 (try simp only [ax])
 refine wpAnyH_ready (rs := [9]) (by kernel_rfl) (by simp) ?_
 refine AllReadyH.cons rfl (fun K' hK => ?_) AllReadyH.nil
 go_simp
 refine (compare_any b d _).mono ?_
 rintro e wn ⟨rfl, rfl⟩
 refine hK.out _ _ (HST.out _ BN.out) (fun _ => ?_)
 clear hK K'
 (try simp only [ax])
 obtain ⟨p1, hp1⟩ : ∃ p, Pl.cmp a c = p := ⟨_, rfl⟩
 obtain ⟨p2, hp2⟩ : ∃ p, Pl.cmp b d = p := ⟨_, rfl⟩
 rw [hp1, hp2] at HV ⊢
 clear hp1 hp2
 refine wpAnyH_ready (rs := [10]) (by kernel_rfl) (by simp) ?_
 refine AllReadyH.cons rfl (fun K' hK => ?_) AllReadyH.nil
 go_simp
 have hnew := heap_alloc_new W0 (.cells #[.int .i64 p1, .int .i64 p2] 3)
 have BA : Hid (Below W0.heap.size W0 (W0.alloc (.cells #[.int .i64 p1, .int .i64 p2] 3)).drew) := Lib.hid (((Below.refl _ _).alloc (Nat.le_refl _) _).drew)
 have HNEW : Hid ((W0.alloc (.cells #[.int .i64 p1, .int .i64 p2] 3)).drew.heap[W0.heap.size]? = some (.cells #[.int .i64 p1, .int .i64 p2] 3 (0, 0))) := Lib.hid hnew
 clear hnew
 refine hK.out _ _ (HST.out _ BA.out) (fun _ => ?_)
 clear hK K'
 (try simp only [ax])
 refine wpAnyH_ready (rs := [11]) (by kernel_rfl) (by simp) ?_
 refine AllReadyH.cons rfl (fun K' hK => ?_) AllReadyH.nil
 go_simp
 refine (lor_any (some ⟨W0.heap.size, 0, none⟩) p1 p2 2 _ ⟨_, rfl, HNEW.out⟩).mono ?_
 rintro e wn ⟨rfl, rfl⟩
 refine hK.out _ _ (HST.out _ BA.out) (fun _ => ?_)
 clear hK K'
 (try simp only [ax])
 rw [← HV.out]
 refine tkE 12 (.int .i64 v) rfl ?_
 (try simp only [ax])
 refine wpAnyH_done (by kernel_rfl) ?_ _
 refine NoPanic.normal ?_
 clear ST0
 go_wp2_with fail
 go_ret
 exact ⟨rfl, HB0.out.trans (BA.out.mono HB0.out.size)⟩
theorem tellsL (w : World) : TellsO kLot w 213 #[] ordL := ⟨fun args W => by kernel_rfl, fun W _ a b ha hb => orderL_any a b W ha hb⟩
end Go.Proofs.YtgbilfkjfeheaaaGreat

namespace Go.Proofs.YtgbilfkjfeheaaaGreat
set_option linter.unusedVariables false
open Go.RowKit
open Pl (firstG findG)

abbrev tvL : Value := .func (.func 213) #[] #[]
attribute [local go_sem] store_func
theorem bykey_any (w : World) : Calls Tryz.prog 203 #[] w fun e w' => e = .returned (.agg #[tvL]) ∧ Below w.heap.size w w' := by
 go_enter Tryz.func203, Tryz.ntmps203
 go_wp2
 refine bodyPost_ret (v := .agg #[tvL]) ?_ rfl ⟨rfl, ?_⟩
 · simp [results, Tryz.results203, go_sem]
 · exact (Below.refl _ _).alloc (Nat.le_refl _) _

set_option maxRecDepth 100000 in
set_option maxHeartbeats 1600000 in
theorem findl_any (h : Hs) (L : List (List Value)) (s t : ByteArray) (w : World) (hn : h.n 1 = L.length) (hn6 : h.n 1 ≤ 1000000) (hL : Things kLot L) (hr : Rd w w.heap.size (h.A 1) L.flatten) :
 Calls Tryz.prog 184 #[h.val, .string s, .string t] w fun e w' => e = .returned (.tuple #[.agg (gotL L s t).toArray, .bool (atL L s t).isSome]) ∧ Below w.heap.size w w' := by
 obtain ⟨W0, hW0⟩ : ∃ W0, W0 = (w.alloc (.cells #[.slice (h.A 0) (h.n 0) (h.c 0), .slice (h.A 1) (h.n 1) (h.c 1), .slice (h.A 2) (h.n 2) (h.c 2), .slice (h.A 3) (h.n 3) (h.c 3), .slice (h.A 4) (h.n 4) (h.c 4), .slice (h.A 5) (h.n 5) (h.c 5), .slice (h.A 6) (h.n 6) (h.c 6), .slice (h.A 7) (h.n 7) (h.c 7), .slice (h.A 8) (h.n 8) (h.c 8), .slice (h.A 9) (h.n 9) (h.c 9), .slice (h.A 10) (h.n 10) (h.c 10), .slice (h.A 11) (h.n 11) (h.c 11), .slice (h.A 12) (h.n 12) (h.c 12), .slice (h.A 13) (h.n 13) (h.c 13), .int .i64 h.z] 37)).alloc (.cells #[.string ⟨#[]⟩, .string ⟨#[]⟩, .int .i64 0] 90) := ⟨_, rfl⟩
 have hb0 : Below w.heap.size w W0 := by rw [hW0]; exact ((Below.refl _ _).alloc (Nat.le_refl _) _).alloc (by simp) _
 have hs0 : W0.heap.size = w.heap.size + 2 := by rw [hW0]; simp
 have HBX : Hid (∀ W, Below W0.heap.size W0 W → W.cell? ⟨w.heap.size, 1, none⟩ = some (.slice (h.A 1) (h.n 1) (h.c 1))) := Lib.hid (fun W hW => (hW.cell (p := ⟨w.heap.size, 1, none⟩) (by simp; omega)).trans (by rw [hW0]; simp [go_sem]))
 have HRX : Hid (∀ W, Below W0.heap.size W0 W → W.heap[w.heap.size + 1]? = some (.cells zeroL.toArray 90 (0, 0))) := Lib.hid (fun W hW => (hW.block _ (by omega)).trans (by
  rw [hW0]
  have := heap_alloc_new (w.alloc (.cells #[.slice (h.A 0) (h.n 0) (h.c 0), .slice (h.A 1) (h.n 1) (h.c 1), .slice (h.A 2) (h.n 2) (h.c 2), .slice (h.A 3) (h.n 3) (h.c 3), .slice (h.A 4) (h.n 4) (h.c 4), .slice (h.A 5) (h.n 5) (h.c 5), .slice (h.A 6) (h.n 6) (h.c 6), .slice (h.A 7) (h.n 7) (h.c 7), .slice (h.A 8) (h.n 8) (h.c 8), .slice (h.A 9) (h.n 9) (h.c 9), .slice (h.A 10) (h.n 10) (h.c 10), .slice (h.A 11) (h.n 11) (h.c 11), .slice (h.A 12) (h.n 12) (h.c 12), .slice (h.A 13) (h.n 13) (h.c 13), .int .i64 h.z] 37)) (.cells zeroL.toArray 90)
  simpa [zeroL] using this))
 have HFI : Hid (∀ W, Below W0.heap.size W0 W → Calls Tryz.prog 204 #[.agg #[tvL], .slice (h.A 1) (h.n 1) (h.c 1), .agg #[.string s, .string t, .int .i64 0]] W fun e w' => e = .returned (firstV (atL L s t)) ∧ Below W.heap.size W w') := Lib.hid (fun W hW =>
  findLot (h.A 1) (h.n 1) (h.c 1) 213 #[] ordL (keyL s t) L W hn hn6 hL (keyL_fits s t) ((hr.below (hb0.trans (hW.mono (by omega)))).mono (hb0.trans (hW.mono (by omega))).size) (tellsL W))
 have HN := Lib.hid hn
 have HL := Lib.hid hL
 have HR := Lib.hid hr
 have HB0 := Lib.hid hb0
 have HS0 := Lib.hid hs0
 have H : Hid (Below W0.heap.size W0 W0.drew) := Lib.hid (Below.refl _ _).drew
 have hu := Tryz.underlying90
 have HSZ : Hid (∀ y, Fits kLot y → (Tryz.prog.info? 90).map (·.size) = some y.toArray.size) := Lib.hid (fun y hy => by rw [show (Tryz.prog.info? 90).map (·.size) = some 3 from by kernel_rfl, List.size_toArray, hy.length]; rfl)
 clear hn hL hr hb0 hs0
 obtain ⟨o, ho⟩ : ∃ o, atL L s t = o := ⟨_, rfl⟩
 rw [ho] at HFI ⊢
 have HO := Lib.hid ho
 clear ho
 cases o with
 | none =>
  rw [firstV_none] at HFI
  unfold Hs.val
  go_enter Tryz.func184, Tryz.ntmps184
  go_wp2_with fail
  rw [← hW0]
  clear hW0
  go_region_held3 (fun w' => w'.cell? ⟨w.heap.size, 1, none⟩ = some (.slice (h.A 1) (h.n 1) (h.c 1)))
   (first | exact HBX.out _ H.out)
   (first
    | (go_at_call 203; refine (bykey_any _).mono ?_; rintro e w' ⟨rfl, hb'⟩; have H := Lib.hid (H.out.trans (hb'.mono H.out.size)); clear hb')
    | (go_at_call 204; refine (HFI.out _ H.out).mono ?_; rintro e w' ⟨rfl, hb'⟩; have H := Lib.hid (H.out.trans (hb'.mono H.out.size)); clear hb'))
  have HRW := Lib.hid (HRX.out _ H.out)
  go_wp2_with (first
   | (refine wpList_store_row rfl 90 (.tmp 6) (.tmp 22) rfl (w.heap.size + 1) zeroL.toArray rfl rfl _ _ HRW.out (HSZ.out _ zeroL_fits) rfl (by simp [zeroL, Value.oneCell']) ?_)
   | fail)
  have HBE : Hid (Below w.heap.size w (w'.setRow (w.heap.size + 1) zeroL.toArray)) := Lib.hid (by
   have hb := HB0.out.trans (H.out.mono HB0.out.size)
   exact ⟨hb.os, hb.tape, hb.output, by simpa using hb.size, fun k hk => (setRow_other _ _ k _ (by omega)).trans (hb.block k hk)⟩)
  have HG : Hid (gotL L s t = zeroL) := Lib.hid (by unfold gotL; rw [HO.out])
  exact bodyPost_ret (results_row_tmp rfl _ _ (w.heap.size + 1) _ _ _ _ rfl (setRow_heap _ _ _ _ _ _ HRW.out) hu rfl (HSZ.out _ zeroL_fits)) rfl ⟨by rw [HG.out]; rfl, HBE.out⟩
 | some i =>
  rw [firstV_some] at HFI
  have hl : i < L.length := Pl.firstG_lt HO.out
  have hin : i < h.n 1 := by rw [HN.out]; exact hl
  obtain ⟨b, off, hA, hb, hc⟩ := HR.out.thing HL.out (by decide) hl
  have HG : Hid (gotL L s t = L[i]) := Lib.hid (by unfold gotL; rw [HO.out]; simp only []; rw [List.getD_eq_getElem?_getD, List.getElem?_eq_getElem hl]; rfl)
  have fx := HL.out _ (List.getElem_mem hl)
  have r1 := hc i hl
  rw [show kLot.length = 3 from rfl] at r1
  obtain ⟨x, hx⟩ : ∃ x, L[i] = x := ⟨_, rfl⟩
  rw [hx] at fx r1 HG
  have HF := Lib.hid fx
  have HR1 : Hid (∀ W, Below W0.heap.size W0 W → W.rangeAt b (off + i * 3) x) := Lib.hid (fun W hW => rangeAt_below r1 hb (HB0.out.trans (hW.mono HB0.out.size)))
  have hlb : b < w.heap.size := hb
  have HIX : Hid ((Tryz.prog.info? 90).map (·.size) = some x.length) := Lib.hid (by have := HSZ.out x fx; rwa [List.size_toArray] at this)
  have HOZ : Hid (zeroL.toArray.size = x.toArray.size) := Lib.hid (by rw [List.size_toArray, List.size_toArray, fx.length]; rfl)
  have HOC : Hid (x.toArray.all (·.oneCell') = true) := Lib.hid (all_oneCell_toArray (fits_one fx))
  have h1 : (0 : Int) ≤ (i : Int) := by omega
  have h2 : (i : Int) < (h.n 1 : Int) := by omega
  rw [hA] at HBX HFI hW0
  unfold Hs.val
  rw [hA]
  clear hc r1 hx fx hb hA HR hl
  go_enter Tryz.func184, Tryz.ntmps184
  go_wp2_with fail
  rw [← hW0]
  clear hW0
  go_region_held3 (fun w' => w'.cell? ⟨w.heap.size, 1, none⟩ = some (.slice (some ⟨b, off, none⟩) (h.n 1) (h.c 1)))
   (first | exact HBX.out _ H.out)
   (first
    | (go_at_call 203; refine (bykey_any _).mono ?_; rintro e w' ⟨rfl, hb'⟩; have H := Lib.hid (H.out.trans (hb'.mono H.out.size)); clear hb')
    | (go_at_call 204; refine (HFI.out _ H.out).mono ?_; rintro e w' ⟨rfl, hb'⟩; have H := Lib.hid (H.out.trans (hb'.mono H.out.size)); clear hb'))
  have HRW := Lib.hid (HRX.out _ H.out)
  have HRM := Lib.hid (HR1.out _ H.out)
  have c0 := HBX.out _ H.out
  go_wp2_with (first
   | (refine wpList_load_mid rfl 90 (.tmp 26) rfl b (off + i * 3) rfl x _ HRM.out hu rfl HIX.out ?_)
   | (refine wpList_store_row rfl 90 (.tmp 6) (.tmp 27) rfl (w.heap.size + 1) x.toArray rfl rfl _ _ HRW.out (HSZ.out _ HF.out) HOZ.out HOC.out ?_)
   | fail)
  have HBE : Hid (Below w.heap.size w (w'.setRow (w.heap.size + 1) x.toArray)) := Lib.hid (by
   have hb := HB0.out.trans (H.out.mono HB0.out.size)
   exact ⟨hb.os, hb.tape, hb.output, by simpa using hb.size, fun k hk => (setRow_other _ _ k _ (by omega)).trans (hb.block k hk)⟩)
  exact bodyPost_ret (results_row_tmp rfl _ _ (w.heap.size + 1) _ _ _ _ rfl (setRow_heap _ _ _ _ _ _ HRW.out) hu rfl (HSZ.out _ HF.out)) rfl ⟨by rw [HG.out]; rfl, HBE.out⟩
end Go.Proofs.YtgbilfkjfeheaaaGreat

namespace Go.Proofs.YtgbilfkjfeheaaaGreat
set_option linter.unusedVariables false
open Go.RowKit
open Pl (It firstG findG)
/-- What the reference's Fits answers, by its parts. -/
def fitBK (i l : Bool) (lb sb : Bool) (c : ByteArray) (s : Int) : Nat :=
 if i = false then 12 else if (lb && !l || !lb && decide (c.size ≠ 0)) = true then 21 else if (sb && decide (1 < s)) = true then 22 else 0
/-- A lot's three cells, an item's fourteen. -/
theorem lot_threeK {h : Hs} {L : Nat → List (List Value)} {w : World} (hh : HT h L w) (s t : ByteArray) : ∃ a c z, gotL (L 1) s t = [.string a, .string c, .int .i64 z] ∧ expL (gotL (L 1) s t) = z :=
 ⟨_, _, _, lot_cells (gotL_fits (hh 1 (by decide)).2.2.1 s t), rfl⟩
theorem latItem_first (L : List (List Value)) (s : ByteArray) : atItem L s = firstG (fun e => Pl.eqv (codeOf e) s) L := by
 unfold atItem findG
 congr 1
 funext e
 exact Pl.cmp_zero _ _
theorem empty_iffL (s : ByteArray) : s.toList.isEmpty = decide (s.size = 0) := by
 rw [ByteArray.toList_eq]
 cases h : s.data.toList with
 | nil =>
  have : s.size = 0 := by rw [← Pl.length_toList, h]; rfl
  simp [this]
 | cons a l =>
  have : s.size ≠ 0 := by rw [← Pl.length_toList, h]; simp
  simp [this]
/-- Find, find of a house in memory. -/
theorem cfindI {h : Hs} {L : Nat → List (List Value)} {w : World} (hh : HT h L w) (s : ByteArray) : Calls Tryz.prog 68 #[.agg h.cells, .string s] w fun e w' => e = .returned (.tuple #[.agg (gotItem (L 0) s).toArray, .bool (atItem (L 0) s).isSome]) ∧ Below w.heap.size w w' :=
 cfindItem_any h (L 0) s w (hh 0 (by decide)).1 (hh 0 (by decide)).2.1 (hh 0 (by decide)).2.2.1 (hh 0 (by decide)).2.2.2
theorem cfindL {h : Hs} {L : Nat → List (List Value)} {w : World} (hh : HT h L w) (s t : ByteArray) : Calls Tryz.prog 184 #[.agg h.cells, .string s, .string t] w fun e w' => e = .returned (.tuple #[.agg (gotL (L 1) s t).toArray, .bool (atL (L 1) s t).isSome]) ∧ Below w.heap.size w w' :=
 findl_any h (L 1) s t w (hh 1 (by decide)).1 (hh 1 (by decide)).2.1 (hh 1 (by decide)).2.2.1 (hh 1 (by decide)).2.2.2

theorem wpList_house {P : Program} {ops : Array Oper} {rest : List Oper} {o : Oper} {a : Act} {w : World} {Q : Exit → Act → World → Prop} (ty : TypeId) (x : Operand) (ho : o.op = .load ty x) (dst : Option Tmp) (hdst : o.dst = dst) (g : Nat) (hx : a.eval x = .pointer (some ⟨g, 0, none⟩)) (t : TypeId) (cs : Array Value) (fr : Nat × Nat) (d : TypeDesc)
 (hg : w.heap[g]? = some (.cells cs t fr)) (hu : P.underlying ty = some d) (hd : (match d with | .struct _ | .array _ _ => true | _ => false) = true) (hi : (P.info? ty).map (·.size) = some cs.size) (hw : Region.wanted o (yielded ops a.tmps) = true) (h : wpList P ops Q rest (a.put dst (.agg cs)) w) : wpList P ops Q (o :: rest) a w := by
 subst hdst
 exact BigFrame.wpList_want hw fun K hK => wp_load_row ty x ho g hx t cs fr d hg hu hd hi (hK _ _ h)
theorem got_none {LL : List (List Value)} {s t : ByteArray} (h : (atL LL s t).isSome = false) : gotL LL s t = zeroL := by
 unfold gotL
 cases hc : atL LL s t with
 | none => rfl
 | some i => rw [hc] at h; cases h
theorem quant_range {h : Hs} {L : Nat → List (List Value)} {w : World} (hh : HT h L w) {k : Nat} (hk : k < (L 4).length) : ∃ b off x0 x3 x5, h.A 4 = some ⟨b, off, none⟩ ∧ ∀ W, Below w.heap.size w W → W.rangeAt b (off + k * 6) [.string x0, .string (itemQ (L 4)[k]), .string (lotQ (L 4)[k]), .int .i64 x3, .int .i64 (qtyQ (L 4)[k]), .int .i64 x5] := by
 obtain ⟨_, _, ht, hr⟩ := hh 4 (by decide)
 obtain ⟨b, off, hA, hb, hc⟩ := hr.thing ht (by decide) hk
 obtain ⟨x0, x1, x2, hq⟩ := quant_cells (ht _ (List.getElem_mem hk))
 refine ⟨b, off, x0, x1, x2, hA, fun W hW => ?_⟩
 have r1 := rangeAt_below (hc k hk) hb hW
 rw [show (kOf 4).length = 6 from rfl] at r1
 rw [← hq]
 exact r1
set_option maxRecDepth 100000 in
set_option maxHeartbeats 1600000 in
theorem stock_any (h : Hs) (L : Nat → List (List Value)) (s t : ByteArray) (w : World) (hh : HT h L w) : Calls Tryz.prog 148 #[.agg h.cells, .string s, .string t] w fun e w' => e = .returned (.int .i64 (sumQ s t (L 4) 0)) ∧ Below w.heap.size w w' := by
 have HNQ : Hid (h.n 4 = (L 4).length) := Lib.hid (hh 4 (by decide)).1
 have hn6 := (hh 4 (by decide)).2.1
 have HHT := Lib.hid hh
 obtain ⟨r, hr⟩ : ∃ r, sumQ s t (L 4) 0 = r := ⟨_, rfl⟩
 rw [hr]
 have HR := Lib.hid hr
 obtain ⟨m, hm⟩ : ∃ m, h.n 4 = m := ⟨_, rfl⟩
 rw [hm] at HNQ hn6
 have HM := Lib.hid hm
 have HB0 : Hid (Below w.heap.size w (w.alloc (.cells h.cells 37))) := Lib.hid ((Below.refl _ _).alloc (Nat.le_refl _) _)
 have HH0 : Hid ((w.alloc (.cells h.cells 37)).heap[w.heap.size]? = some (.cells h.cells 37 (0, 0))) := Lib.hid (heap_alloc_new _ _)
 have c4 : (w.alloc (.cells h.cells 37)).cell? ⟨w.heap.size, 4, none⟩ = some (.slice (h.A 4) m (h.c 4)) := by rw [cell_of_block HH0.out, ← hm]; rfl
 have hlw : w.heap.size < (w.alloc (.cells h.cells 37)).heap.size := by simp
 clear hm hr hh
 go_enter Tryz.func148, Tryz.ntmps148
 go_wp2_with fail
 clear c4 hlw
 go_loopw [7, 13] (fun sv kv wr => ∃ k : Nat, k ≤ m ∧ kv = .int .i64 (k : Int) ∧ (∃ q : Int, sv = .int .i64 q ∧ Hid (q = sumQ s t ((L 4).take k) 0)) ∧ Hid (Below w.heap.size w wr)) (fun _ kv _ => m - (intOf kv).toNat)
 case atStart => exact ⟨0, by omega, rfl, ⟨0, rfl, Lib.hid rfl⟩, HB0⟩
 case round =>
  obtain ⟨k, hk, rfl, ⟨q, rfl, hq⟩, hw⟩ := hrel
  by_cases hlt : k < m
  · have hkl : k < (L 4).length := by rw [← HNQ.out]; exact hlt
    obtain ⟨b, off, x0, x3, x5, hA, hc⟩ := quant_range HHT.out hkl
    have hsn := sumQ_snoc s t (L 4) k hkl 0
    have hcr := hc wr hw.out
    obtain ⟨u, hu⟩ : ∃ u, (L 4)[k] = u := ⟨_, rfl⟩
    rw [hu] at hcr hsn
    rw [← hq.out] at hsn
    obtain ⟨ui, hui⟩ : ∃ y, itemQ u = y := ⟨_, rfl⟩
    obtain ⟨ul, hul⟩ : ∃ y, lotQ u = y := ⟨_, rfl⟩
    obtain ⟨uq, huq⟩ : ∃ y, qtyQ u = y := ⟨_, rfl⟩
    have hof : ofQ s t u = (Pl.eqv ui s && Pl.eqv ul t) := by unfold ofQ; rw [hui, hul]
    rw [huq, hof] at hsn
    rw [hui, hul, huq] at hcr
    have HSN := Lib.hid hsn
    have HCR := Lib.hid hcr
    have huq2 := Tryz.underlying71
    have HSQ : Hid ((Tryz.prog.info? 71).map (·.size) = some 6) := Lib.hid (by kernel_rfl)
    have HBN : Hid (Below w.heap.size w (wr.alloc (.cells #[.string x0, .string ui, .string ul, .int .i64 x3, .int .i64 uq, .int .i64 x5] 71))) := Lib.hid (hw.out.alloc hw.out.size _)
    rw [hA]
    clear hof hui hul huq hu hsn hcr hc hkl hA
    cases hp : Pl.eqv ui s with
    | false =>
     have hp' : (ui.toList == s.toList) = false := hp
     have HS1 : Hid (q = sumQ s t ((L 4).take (k + 1)) 0) := Lib.hid (by rw [HSN.out, hp]; rfl)
     clear hp
     go_wp2_with (first
      | (refine wpList_load_mid rfl 71 (.tmp 15) rfl b (off + k * 6) rfl [.string x0, .string ui, .string ul, .int .i64 x3, .int .i64 uq, .int .i64 x5] _ HCR.out huq2 rfl HSQ.out ?_)
      | fail)
     go_roundw
     case rel => exact ⟨k + 1, by omega, by go_num, ⟨q, rfl, HS1⟩, HBN⟩
     case measure => simp [intOf]; omega
    | true =>
     have hp' : (ui.toList == s.toList) = true := hp
     cases hp2 : Pl.eqv ul t with
     | false =>
      have hp2' : (ul.toList == t.toList) = false := hp2
      have HS1 : Hid (q = sumQ s t ((L 4).take (k + 1)) 0) := Lib.hid (by rw [HSN.out, hp, hp2]; rfl)
      clear hp hp2
      go_wp2_with (first
       | (refine wpList_load_mid rfl 71 (.tmp 15) rfl b (off + k * 6) rfl [.string x0, .string ui, .string ul, .int .i64 x3, .int .i64 uq, .int .i64 x5] _ HCR.out huq2 rfl HSQ.out ?_)
       | fail)
      go_roundw
      case rel => exact ⟨k + 1, by omega, by go_num, ⟨q, rfl, HS1⟩, HBN⟩
      case measure => simp [intOf]; omega
     | true =>
      have hp2' : (ul.toList == t.toList) = true := hp2
      have HS1 : Hid (wrap64 (q + uq) = sumQ s t ((L 4).take (k + 1)) 0) := Lib.hid (by rw [HSN.out, hp, hp2]; rfl)
      clear hp hp2
      go_wp2_with (first
       | (refine wpList_load_mid rfl 71 (.tmp 15) rfl b (off + k * 6) rfl [.string x0, .string ui, .string ul, .int .i64 x3, .int .i64 uq, .int .i64 x5] _ HCR.out huq2 rfl HSQ.out ?_)
       | fail)
      go_roundw
      case rel => exact ⟨k + 1, by omega, by go_num, ⟨_, rfl, HS1⟩, HBN⟩
      case measure => simp [intOf]; omega
  · obtain rfl : k = m := by omega
    have HV : Hid (q = r) := Lib.hid (by rw [hq.out, ← HR.out, List.take_of_length_le (by rw [HNQ.out]; omega)])
    go_wp2_with fail
    go_ret
    exact ⟨by rw [← HV.out]; rfl, hw.out⟩
theorem lgotItem_code {LI : List (List Value)} {s : ByteArray} {x : It} (h : (atItem LI s).isSome = true) (hx : gotItem LI s = x.cells) : x.code = s := by
 unfold gotItem at hx
 cases hc : atItem LI s with
 | none => rw [hc] at h; cases h
 | some i =>
  rw [hc] at hx
  rw [latItem_first] at hc
  have hl := Pl.firstG_lt hc
  have ha := Pl.firstG_at hc hl
  simp only [List.getD_eq_getElem?_getD, List.getElem?_eq_getElem hl, Option.getD_some] at hx
  rw [hx] at ha
  exact (Pl.eqv_iff _ _).1 ha
set_option maxRecDepth 100000 in
set_option maxHeartbeats 1600000 in
/-- suits: may an item stand in a lot? -/
theorem suits_any (h : Hs) (L : Nat → List (List Value)) (x : It) (t : ByteArray) (w : World) (hh : HT h L w) : Calls Tryz.prog 147 #[.agg h.cells, .agg x.cells.toArray, .string t] w fun e w' => e = .returned (.bool (if x.lots = true then (atL (L 1) x.code t).isSome else decide (t.size = 0))) ∧ Below w.heap.size w w' := by
 obtain ⟨a, c, z, hg, _⟩ := lot_threeK hh x.code t
 have HFL := Lib.hid (fun W (hW : Below w.heap.size w W) => cfindL (hh.below hW) x.code t)
 obtain ⟨il, hil⟩ : ∃ b, (atL (L 1) x.code t).isSome = b := ⟨_, rfl⟩
 rw [hg, hil] at HFL
 rw [hil]
 unfold It.cells
 obtain ⟨lb, hlb⟩ : ∃ b, x.lots = b := ⟨_, rfl⟩
 rw [hlb]
 obtain ⟨v, hv⟩ : ∃ v, (if lb = true then il else decide (t.size = 0)) = v := ⟨_, rfl⟩
 rw [hv]
 have HV := Lib.hid hv
 clear hg hil hlb hh hv
 have huh := Tryz.underlying37
 have HSH : Hid (∀ a : Hs, (Tryz.prog.info? 37).map (·.size) = some a.cells.size) := Lib.hid (fun a => by kernel_rfl)
 have HB0 : Hid (Below w.heap.size w ((w.alloc (.cells h.cells 37)).alloc (.cells #[.string x.code, .string (x.nm 0), .int .i64 (x.fc 0), .string (x.nm 1), .int .i64 (x.fc 1), .string (x.nm 2), .int .i64 (x.fc 2), .string (x.nm 3), .int .i64 (x.fc 3), .int .i64 x.vol, .int .i64 x.wei, .bool lb, .bool x.serial, .bool x.chk] 87))) := Lib.hid (((Below.refl _ _).alloc (Nat.le_refl _) _).alloc (by simp) _)
 have HH0 : Hid (((w.alloc (.cells h.cells 37)).alloc (.cells #[.string x.code, .string (x.nm 0), .int .i64 (x.fc 0), .string (x.nm 1), .int .i64 (x.fc 1), .string (x.nm 2), .int .i64 (x.fc 2), .string (x.nm 3), .int .i64 (x.fc 3), .int .i64 x.vol, .int .i64 x.wei, .bool lb, .bool x.serial, .bool x.chk] 87)).heap[w.heap.size]? = some (.cells h.cells 37 (0, 0))) := Lib.hid ((Below.heap_alloc _ _ _ (by simp)).trans (heap_alloc_new _ _))
 cases lb with
 | false =>
  have hemp : t.toList.isEmpty = v := (empty_iffL t).trans (by have := HV.out; rwa [if_neg (by decide)] at this)
  go_enter Tryz.func147, Tryz.ntmps147
  go_wp2_with fail
  go_ret
  exact ⟨rfl, HB0.out⟩
 | true =>
  have hiv : il = v := by have := HV.out; rwa [if_pos rfl] at this
  subst hiv
  go_enter Tryz.func147, Tryz.ntmps147
  go_wp2_with (first
   | (refine wpList_load_row rfl 37 (.tmp 3) rfl w.heap.size rfl _ _ _ _ HH0.out huh rfl (HSH.out _) ?_)
   | fail)
  refine (HFL.out _ HB0.out).mono ?_
  rintro e w1 ⟨rfl, hb1⟩
  have B1 := Lib.hid (HB0.out.trans (hb1.mono HB0.out.size))
  clear hb1
  go_wp2_with fail
  go_ret
  exact ⟨rfl, B1.out.alloc B1.out.size _⟩
theorem fitBK_suit {ii il lb sb : Bool} {t : ByteArray} {q : Int} {v : Bool} (hv : (if lb = true then il else decide (t.size = 0)) = v) : fitBK ii il lb sb t q = if ii = false then 12 else if v = false then 21 else if (sb && decide (1 < q)) = true then 22 else 0 := by
 unfold fitBK
 cases ii with
 | false => rfl
 | true =>
  cases lb with
  | true => rw [if_pos rfl] at hv; subst hv; cases il <;> rfl
  | false =>
   rw [if_neg (by decide)] at hv
   by_cases h0 : t.size = 0
   · rw [decide_eq_true h0] at hv; subst hv; simp [h0]
   · rw [decide_eq_false h0] at hv; subst hv; simp [h0]
set_option maxRecDepth 100000 in
set_option maxHeartbeats 1600000 in
theorem lcfits_any (h : Hs) (L : Nat → List (List Value)) (s t : ByteArray) (n : Int) (w : World) (hh : HT h L w) (hn : -9223372036854775808 ≤ n ∧ n ≤ 9223372036854775807) : Calls Tryz.prog 105 #[.agg h.cells, .string s, .string t, .int .i64 n] w fun e w' => e = .returned (.int .i64 (fitE (L 0) (L 1) (L 4) s t n : Nat)) ∧ Below w.heap.size w w' := by
 obtain ⟨x, hx⟩ := It.of (gotItem_fits (hh 0 (by decide)).2.2.1 s)
 have HFI := Lib.hid (fun W (hW : Below w.heap.size w W) => cfindI (hh.below hW) s)
 have HSU := Lib.hid (fun W (hW : Below w.heap.size w W) => suits_any h L x t W (hh.below hW))
 have HST := Lib.hid (fun W (hW : Below w.heap.size w W) => stock_any h L s t W (hh.below hW))
 have hco := fun hf => lgotItem_code (LI := L 0) (s := s) hf hx
 obtain ⟨sb, hsb⟩ : ∃ b, x.serial = b := ⟨_, rfl⟩
 obtain ⟨ii, hii⟩ : ∃ b, (atItem (L 0) s).isSome = b := ⟨_, rfl⟩
 obtain ⟨v, hv⟩ : ∃ b, (if x.lots = true then (atL (L 1) x.code t).isSome else decide (t.size = 0)) = b := ⟨_, rfl⟩
 have HV : Hid (fitE (L 0) (L 1) (L 4) s t n = if ii = false then 12 else if v = false then 21 else if (sb && decide (1 < sumQ s t (L 4) n)) = true then 22 else 0) := Lib.hid (by
  have h1 : fitE (L 0) (L 1) (L 4) s t n = fitBK ii (atL (L 1) s t).isSome x.lots sb t (sumQ s t (L 4) n) := by
   unfold fitE fitBK
   rw [hx, hii, show lotsI x.cells = x.lots from rfl, show serI x.cells = sb from hsb]
  rw [h1]
  cases ii with
  | false => rfl
  | true =>
   rw [hco hii] at hv
   exact fitBK_suit hv)
 have HSF := Lib.hid (sumQ_from s t (L 4) n hn)
 rw [hx, hii] at HFI
 rw [hv] at HSU
 unfold It.cells at HFI HSU
 rw [hsb] at HFI HSU
 obtain ⟨r, hr⟩ : ∃ r, fitE (L 0) (L 1) (L 4) s t n = r := ⟨_, rfl⟩
 obtain ⟨q0, hq0⟩ : ∃ r, sumQ s t (L 4) 0 = r := ⟨_, rfl⟩
 obtain ⟨qn, hqn⟩ : ∃ r, sumQ s t (L 4) n = r := ⟨_, rfl⟩
 rw [hr, hqn] at HV
 rw [hq0] at HST
 rw [hq0, hqn] at HSF
 rw [hr]
 have hsf := HSF.out
 clear hr hx hii hsb hh hq0 hqn hv hco
 have huh := Tryz.underlying37
 have hui := Tryz.underlying87
 have HSH : Hid (∀ a : Hs, (Tryz.prog.info? 37).map (·.size) = some a.cells.size) := Lib.hid (fun a => by kernel_rfl)
 have HSI : Hid ((Tryz.prog.info? 87).map (·.size) = some 14) := Lib.hid (by kernel_rfl)
 have HB0 : Hid (Below w.heap.size w (w.alloc (.cells h.cells 37))) := Lib.hid ((Below.refl _ _).alloc (Nat.le_refl _) _)
 have HH0 : Hid ((w.alloc (.cells h.cells 37)).heap[w.heap.size]? = some (.cells h.cells 37 (0, 0))) := Lib.hid (heap_alloc_new _ _)
 go_enter Tryz.func105, Tryz.ntmps105
 go_wp2_with (first
  | (refine wpList_load_row rfl 37 (.tmp 4) rfl w.heap.size rfl _ _ _ _ HH0.out huh rfl (HSH.out _) ?_)
  | fail)
 refine (HFI.out _ HB0.out).mono ?_
 rintro e w1 ⟨rfl, hb1⟩
 have B1 := Lib.hid (HB0.out.trans (hb1.mono HB0.out.size))
 have HH1 := Lib.hid ((hb1.block _ (lt_of_block HH0.out)).trans HH0.out)
 clear hb1
 cases ii with
 | false =>
  have HE : Hid (r = 12) := Lib.hid (by rw [HV.out]; rfl)
  go_wp2_with fail
  go_ret
  exact ⟨by rw [HE.out]; rfl, B1.out.alloc B1.out.size _⟩
 | true =>
  have HXC : Hid ((w1.alloc (.cells #[.string x.code, .string (x.nm 0), .int .i64 (x.fc 0), .string (x.nm 1), .int .i64 (x.fc 1), .string (x.nm 2), .int .i64 (x.fc 2), .string (x.nm 3), .int .i64 (x.fc 3), .int .i64 x.vol, .int .i64 x.wei, .bool x.lots, .bool sb, .bool x.chk] 87)).heap[w1.heap.size]? = some (.cells #[.string x.code, .string (x.nm 0), .int .i64 (x.fc 0), .string (x.nm 1), .int .i64 (x.fc 1), .string (x.nm 2), .int .i64 (x.fc 2), .string (x.nm 3), .int .i64 (x.fc 3), .int .i64 x.vol, .int .i64 x.wei, .bool x.lots, .bool sb, .bool x.chk] 87 (0, 0))) := Lib.hid (heap_alloc_new _ _)
  obtain ⟨w2, hw2⟩ : ∃ w2, w2 = w1.alloc (.cells #[.string x.code, .string (x.nm 0), .int .i64 (x.fc 0), .string (x.nm 1), .int .i64 (x.fc 1), .string (x.nm 2), .int .i64 (x.fc 2), .string (x.nm 3), .int .i64 (x.fc 3), .int .i64 x.vol, .int .i64 x.wei, .bool x.lots, .bool sb, .bool x.chk] 87) := ⟨_, rfl⟩
  have B2 : Hid (Below w.heap.size w w2) := Lib.hid (by rw [hw2]; exact B1.out.alloc B1.out.size _)
  have HH2 : Hid (w2.heap[w.heap.size]? = some (.cells h.cells 37 (0, 0))) := Lib.hid (by rw [hw2]; exact (Below.heap_alloc w1 _ _ (lt_of_block HH1.out)).trans HH1.out)
  rw [← hw2] at HXC
  have HW2 := Lib.hid hw2
  have HKX : Hid (∀ W, Below w2.heap.size w2 W → W.cell? ⟨w1.heap.size, 12, none⟩ = some (.bool sb) ∧ w1.heap.size < W.heap.size) := Lib.hid (fun W hW => ⟨by rw [cell_of_block ((hW.block _ (lt_of_block HXC.out)).trans HXC.out)]; rfl, Nat.lt_of_lt_of_le (lt_of_block HXC.out) hW.size⟩)
  have HKH : Hid (∀ W, Below w2.heap.size w2 W → W.heap[w.heap.size]? = some (.cells h.cells 37 (0, 0)) ∧ Below w.heap.size w W) := Lib.hid (fun W hW => ⟨(hW.block _ (lt_of_block HH2.out)).trans HH2.out, B2.out.trans (hW.mono B2.out.size)⟩)
  clear hw2
  go_wp2_with (first
   | (refine wpList_load_row rfl 37 (.tmp 4) rfl w.heap.size rfl _ _ _ _ (HW2.out ▸ HH2.out) huh rfl (HSH.out _) ?_)
   | (refine wpList_load_row rfl 87 (.tmp 9) rfl w1.heap.size rfl _ _ _ _ (HW2.out ▸ HXC.out) hui rfl HSI.out ?_)
   | fail)
  rw [← HW2.out]
  refine (HSU.out _ B2.out).mono ?_
  rintro e w3 ⟨rfl, hb3⟩
  have H4 := Lib.hid hb3
  clear hb3
  cases v with
  | false =>
   have HE : Hid (r = 21) := Lib.hid (by rw [HV.out]; rfl)
   go_wp2_with fail
   go_ret
   exact ⟨by rw [HE.out]; rfl, (HKH.out _ H4.out).2⟩
  | true =>
   have HV2 : Hid (r = if (sb && decide (1 < qn)) = true then 22 else 0) := Lib.hid (by rw [HV.out]; rfl)
   obtain ⟨d12, hlx⟩ := HKX.out _ H4.out
   have HHW := Lib.hid (HKH.out _ H4.out).1
   cases sb with
   | false =>
    have HE : Hid (r = 0) := Lib.hid (by rw [HV2.out]; rfl)
    go_wp2_with fail
    go_ret
    exact ⟨by rw [HE.out]; rfl, (HKH.out _ H4.out).2⟩
   | true =>
    go_wp2_with (first
     | (refine wpList_house 37 (.tmp 4) rfl (some 28) rfl w.heap.size rfl _ _ _ _ HHW.out huh rfl (HSH.out _) (by kernel_rfl) ?_)
     | fail)
    refine (HST.out _ (HKH.out _ H4.out).2).mono ?_
    rintro e w5 ⟨rfl, hb5⟩
    have B5 := Lib.hid ((HKH.out _ H4.out).2.trans (hb5.mono (HKH.out _ H4.out).2.size))
    clear hb5
    by_cases h1 : 1 < qn
    · have HE : Hid (r = 22) := Lib.hid (by rw [HV2.out]; simp [h1])
      go_wp2_with fail
      go_ret
      exact ⟨by rw [HE.out]; rfl, B5.out⟩
    · have HE : Hid (r = 0) := Lib.hid (by rw [HV2.out]; simp [h1])
      go_wp2_with fail
      go_ret
      exact ⟨by rw [HE.out]; rfl, B5.out⟩
end Go.Proofs.YtgbilfkjfeheaaaGreat
