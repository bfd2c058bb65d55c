/-
 CONTRACTS of the code's order of lots, of find, of Day. (By wip/tools/port15c.py.)
-/
import Derived.Test.YtnkhnbpopdmkhaaGreatOPl
import Derived.Test.YtnkhnbpopdmkhaaGreatKP
import Derived.Test.YtnkhnbpopdmkhaaGreatKF
import Derived.BigQuiet
import Derived.Deep.RegionHeld3
namespace Go.Proofs.YtnkhnbpopdmkhaaGreat
set_option linter.unusedVariables false
open Go.RowKit
open Pl (firstG firstG_none firstG_some findG overG putG It)

theorem lor_any (A : Option Addr) (y z : Int) (c : Nat) (w : World) (hA : ∃ b, A = some ⟨b, 0, none⟩ ∧ w.heap[b]? = some (.cells #[.int .i64 y, .int .i64 z] 3 (0, 0))) : Calls Tryz.prog 43 #[.slice A 2 c] w fun e w' => e = .returned (.int .i64 (if y = 0 then z else y)) ∧ w' = w := by
 obtain ⟨b, rfl, hb⟩ := hA
 have c0 : w.cell? ⟨b, 0, none⟩ = some (.int .i64 y) := by rw [cell_of_block hb]; rfl
 have c1 : w.cell? ⟨b, 1, none⟩ = some (.int .i64 z) := by rw [cell_of_block hb]; rfl
 have hl : b < w.heap.size := lt_of_block hb
 clear hb
 go_enter Tryz.func43, Tryz.ntmps43
 obtain ⟨r, hr⟩ : ∃ r, (if y = 0 then z else y) = r := ⟨_, rfl⟩
 rw [hr]
 have HR := Lib.hid hr
 clear hr
 go_wp2_with fail
 go_loopw [8] (fun kv wr => ∃ k : Nat, k ≤ 2 ∧ kv = .int .i64 (k : Int) ∧ Hid (1 ≤ k → y = 0) ∧ Hid (2 ≤ k → z = 0) ∧ Hid (wr = w)) (fun kv _ => 2 - (intOf kv).toNat)
 case atStart => exact ⟨0, by omega, rfl, Lib.hid (by omega), Lib.hid (by omega), Lib.hid (by first | rfl | trivial)⟩
 case round =>
  obtain ⟨k, hk, rfl, h1, h2, hw⟩ := hrel
  obtain rfl := hw.out
  have hk3 : k = 0 ∨ k = 1 ∨ k = 2 := by omega
  rcases hk3 with rfl | rfl | rfl
  · by_cases hy : y = 0
    · have HY0 := Lib.hid hy
      go_wp2_with fail
      go_roundw
      case rel => exact ⟨1, by omega, rfl, Lib.hid (fun _ => HY0.out), Lib.hid (by omega), Lib.hid (by first | rfl | trivial)⟩
      case measure => simp [intOf]
    · have hy' : (y != 0) = true := by simpa using hy
      have HV : Hid (r = y) := Lib.hid (by rw [← HR.out, if_neg hy])
      clear hy
      go_wp2_with fail
      go_ret
      exact ⟨by rw [HV.out]; rfl, rfl⟩
  · have HY0 := Lib.hid (h1.out (by omega))
    by_cases hz : z = 0
    · have HZ0 := Lib.hid hz
      go_wp2_with fail
      go_roundw
      case rel => exact ⟨2, by omega, rfl, Lib.hid (fun _ => HY0.out), Lib.hid (fun _ => HZ0.out), Lib.hid (by first | rfl | trivial)⟩
      case measure => simp [intOf]
    · have hz' : (z != 0) = true := by simpa using hz
      have HV : Hid (r = z) := Lib.hid (by rw [← HR.out, if_pos HY0.out])
      clear hz
      go_wp2_with fail
      go_ret
      exact ⟨by rw [HV.out]; rfl, rfl⟩
  · have HV : Hid (r = 0) := Lib.hid (by rw [← HR.out, if_pos (h1.out (by omega)), h2.out (by omega)])
    go_wp2_with fail
    go_ret
    exact ⟨by rw [HV.out]; rfl, rfl⟩
set_option maxRecDepth 100000 in
theorem orderL_any (x y : List Value) (w : World) (hx : Fits kLot x) (hy : Fits kLot y) : Calls Tryz.prog 99 #[.agg x.toArray, .agg y.toArray] w fun e w' => e = .returned (.int .i64 (ordL x y)) ∧ Below w.heap.size w w' := by
 have hxr := lot_cells hx
 have hyr := lot_cells hy
 have HV : Hid (ordL x y = if Pl.cmp (itemL x) (itemL y) = 0 then Pl.cmp (codeL x) (codeL y) else Pl.cmp (itemL x) (itemL y)) := Lib.hid rfl
 obtain ⟨a, ha⟩ : ∃ s, itemL x = s := ⟨_, rfl⟩
 obtain ⟨b, hb⟩ : ∃ s, codeL x = s := ⟨_, rfl⟩
 obtain ⟨c, hc⟩ : ∃ s, itemL y = s := ⟨_, rfl⟩
 obtain ⟨d, hd⟩ : ∃ s, codeL y = s := ⟨_, rfl⟩
 obtain ⟨z, hz⟩ : ∃ s, expL x = s := ⟨_, rfl⟩
 obtain ⟨u, hu⟩ : ∃ s, expL y = s := ⟨_, rfl⟩
 rw [ha, hb, hc, hd] at HV
 rw [ha, hb, hz] at hxr
 rw [hc, hd, hu] at hyr
 clear ha hb hc hd hz hu hx hy
 obtain ⟨v, hv⟩ : ∃ v, ordL x y = v := ⟨_, rfl⟩
 rw [hv] at HV ⊢
 clear hv
 subst hxr hyr
 go_enter Tryz.func99, Tryz.ntmps99
 obtain ⟨W0, hW0⟩ : ∃ W0, W0 = (w.alloc (.cells #[.string a, .string b, .int .i64 z] 71)).alloc (.cells #[.string c, .string d, .int .i64 u] 71) := ⟨_, rfl⟩
 have hb0 : Below w.heap.size w W0 := by rw [hW0]; exact ((Below.refl _ _).alloc (Nat.le_refl _) _).alloc (by simp) _
 have hs0 : W0.heap.size = w.heap.size + 2 := by rw [hW0]; simp
 have HST : Hid (∀ W, Below W0.heap.size W0 W → W.cell? ⟨w.heap.size, 0, none⟩ = some (.string a) ∧ W.cell? ⟨w.heap.size, 1, none⟩ = some (.string b) ∧ W.cell? ⟨w.heap.size + 1, 0, none⟩ = some (.string c) ∧ W.cell? ⟨w.heap.size + 1, 1, none⟩ = some (.string d)) := Lib.hid (fun W hW => by
  have h1 : W.heap[w.heap.size]? = some (.cells #[.string a, .string b, .int .i64 z] 71 (0, 0)) := (hW.block _ (by omega)).trans (by rw [hW0]; exact (Below.heap_alloc _ _ _ (by simp)).trans (heap_alloc_new _ _))
  have h2 : W.heap[w.heap.size + 1]? = some (.cells #[.string c, .string d, .int .i64 u] 71 (0, 0)) := (hW.block _ (by omega)).trans (by
   rw [hW0]
   have := heap_alloc_new (w.alloc (.cells #[.string a, .string b, .int .i64 z] 71)) (.cells #[.string c, .string d, .int .i64 u] 71)
   simpa using this)
  exact ⟨by rw [cell_of_block h1]; rfl, by rw [cell_of_block h1]; rfl, by rw [cell_of_block h2]; rfl, by rw [cell_of_block h2]; rfl⟩)
 have HB0 := Lib.hid hb0
 have BN := Lib.hid ((Below.refl W0.heap.size W0).drew)
 clear hb0
 go_wp2_with fail
 rw [← hW0]
 clear hW0 hs0
 have ST0 := HST.out _ BN.out
 refine wp_region_noPanic ?_
 refine wp_region_held_drew (S := (fun W => W.cell? ⟨w.heap.size, 0, none⟩ = some (.string a) ∧ W.cell? ⟨w.heap.size, 1, none⟩ = some (.string b) ∧ W.cell? ⟨w.heap.size + 1, 0, none⟩ = some (.string c) ∧ W.cell? ⟨w.heap.size + 1, 1, none⟩ = some (.string d))) (by kernel_rfl) ST0 (fun dd0 => ?_)
 refine tkE 0 (.pointer (some ⟨w.heap.size, 0, none⟩)) rfl ?_
 (try simp only [ax])
 refine tkF 1 (.string a) rfl (.inl ⟨by kernel_rfl, fun w hw => by obtain ⟨hc0, hc1, hc2, hc3⟩ := hw; go_simp⟩) ?_
 (try simp only [ax])
 refine tkE 2 (.pointer (some ⟨w.heap.size + 1, 0, none⟩)) rfl ?_
 (try simp only [ax])
 refine tkF 3 (.string c) rfl (.inl ⟨by kernel_rfl, fun w hw => by obtain ⟨hc0, hc1, hc2, hc3⟩ := hw; go_simp⟩) ?_
 (try simp only [ax])
 refine tkE 5 (.pointer (some ⟨w.heap.size, 1, none⟩)) rfl ?_
 (try simp only [ax])
 refine tkF 6 (.string b) rfl (.inl ⟨by kernel_rfl, fun w hw => by obtain ⟨hc0, hc1, hc2, hc3⟩ := hw; go_simp⟩) ?_
 (try simp only [ax])
 refine tkE 7 (.pointer (some ⟨w.heap.size + 1, 1, none⟩)) rfl ?_
 (try simp only [ax])
 refine tkF 8 (.string d) rfl (.inl ⟨by kernel_rfl, fun w hw => by obtain ⟨hc0, hc1, hc2, hc3⟩ := hw; go_simp⟩) ?_
 (try simp only [ax])
 refine wpAnyH_ready (rs := [4]) (by kernel_rfl) (by simp) ?_
 refine AllReadyH.cons rfl (fun K' hK => ?_) AllReadyH.nil
 go_simp
 refine (compare_any a c _).mono ?_
 rintro e wn ⟨rfl, rfl⟩
 refine hK.out _ _ (HST.out _ BN.out) (fun _ => ?_)
 clear hK K'
 (try simp only [ax])
 refine wpAnyH_ready (rs := [9]) (by kernel_rfl) (by simp) ?_
 refine AllReadyH.cons rfl (fun K' hK => ?_) AllReadyH.nil
 go_simp
 refine (compare_any b d _).mono ?_
 rintro e wn ⟨rfl, rfl⟩
 refine hK.out _ _ (HST.out _ BN.out) (fun _ => ?_)
 clear hK K'
 (try simp only [ax])
 obtain ⟨p1, hp1⟩ : ∃ p, Pl.cmp a c = p := ⟨_, rfl⟩
 obtain ⟨p2, hp2⟩ : ∃ p, Pl.cmp b d = p := ⟨_, rfl⟩
 rw [hp1, hp2] at HV ⊢
 clear hp1 hp2
 refine wpAnyH_ready (rs := [10]) (by kernel_rfl) (by simp) ?_
 refine AllReadyH.cons rfl (fun K' hK => ?_) AllReadyH.nil
 go_simp
 have hnew := heap_alloc_new W0 (.cells #[.int .i64 p1, .int .i64 p2] 3)
 have BA : Hid (Below W0.heap.size W0 (W0.alloc (.cells #[.int .i64 p1, .int .i64 p2] 3)).drew) := Lib.hid (((Below.refl _ _).alloc (Nat.le_refl _) _).drew)
 have HNEW : Hid ((W0.alloc (.cells #[.int .i64 p1, .int .i64 p2] 3)).drew.heap[W0.heap.size]? = some (.cells #[.int .i64 p1, .int .i64 p2] 3 (0, 0))) := Lib.hid hnew
 clear hnew
 refine hK.out _ _ (HST.out _ BA.out) (fun _ => ?_)
 clear hK K'
 (try simp only [ax])
 refine wpAnyH_ready (rs := [11]) (by kernel_rfl) (by simp) ?_
 refine AllReadyH.cons rfl (fun K' hK => ?_) AllReadyH.nil
 go_simp
 refine (lor_any (some ⟨W0.heap.size, 0, none⟩) p1 p2 2 _ ⟨_, rfl, HNEW.out⟩).mono ?_
 rintro e wn ⟨rfl, rfl⟩
 refine hK.out _ _ (HST.out _ BA.out) (fun _ => ?_)
 clear hK K'
 (try simp only [ax])
 rw [← HV.out]
 refine tkE 12 (.int .i64 v) rfl ?_
 (try simp only [ax])
 refine wpAnyH_done (by kernel_rfl) ?_ _
 refine NoPanic.normal ?_
 clear ST0
 go_wp2_with fail
 go_ret
 exact ⟨rfl, HB0.out.trans (BA.out.mono HB0.out.size)⟩
theorem tellsL (w : World) : TellsO kLot w 99 #[] ordL := ⟨fun args W => by kernel_rfl, fun W _ a b ha hb => orderL_any a b W ha hb⟩
abbrev tvL : Value := .func (.func 99) #[] #[]
attribute [local go_sem] store_func
theorem bykey_any (w : World) : Calls Tryz.prog 91 #[] w fun e w' => e = .returned (.agg #[tvL]) ∧ Below w.heap.size w w' := by
 go_enter Tryz.func91, Tryz.ntmps91
 go_wp2
 refine bodyPost_ret (v := .agg #[tvL]) ?_ rfl ⟨rfl, ?_⟩
 · simp [results, Tryz.results91, go_sem]
 · exact (Below.refl _ _).alloc (Nat.le_refl _) _

set_option maxRecDepth 100000 in
set_option maxHeartbeats 1600000 in
theorem findl_any (h : Hs) (L : List (List Value)) (s t : ByteArray) (w : World) (hn : h.n 1 = L.length) (hn6 : h.n 1 ≤ 1000000) (hL : Things kLot L) (hr : Rd w w.heap.size (h.A 1) L.flatten) :
 Calls Tryz.prog 82 #[h.val, .string s, .string t] w fun e w' => e = .returned (.tuple #[.agg (gotL L s t).toArray, .bool (atL L s t).isSome]) ∧ Below w.heap.size w w' := by
 obtain ⟨W0, hW0⟩ : ∃ W0, W0 = (w.alloc (.cells #[.slice (h.A 0) (h.n 0) (h.c 0), .slice (h.A 1) (h.n 1) (h.c 1), .slice (h.A 2) (h.n 2) (h.c 2), .slice (h.A 3) (h.n 3) (h.c 3), .slice (h.A 4) (h.n 4) (h.c 4), .slice (h.A 5) (h.n 5) (h.c 5), .slice (h.A 6) (h.n 6) (h.c 6), .slice (h.A 7) (h.n 7) (h.c 7), .slice (h.A 8) (h.n 8) (h.c 8), .slice (h.A 9) (h.n 9) (h.c 9), .slice (h.A 10) (h.n 10) (h.c 10), .slice (h.A 11) (h.n 11) (h.c 11), .slice (h.A 12) (h.n 12) (h.c 12), .slice (h.A 13) (h.n 13) (h.c 13), .int .i64 h.z] 37)).alloc (.cells #[.string ⟨#[]⟩, .string ⟨#[]⟩, .int .i64 0] 71) := ⟨_, rfl⟩
 have hb0 : Below w.heap.size w W0 := by rw [hW0]; exact ((Below.refl _ _).alloc (Nat.le_refl _) _).alloc (by simp) _
 have hs0 : W0.heap.size = w.heap.size + 2 := by rw [hW0]; simp
 have HBX : Hid (∀ W, Below W0.heap.size W0 W → W.cell? ⟨w.heap.size, 1, none⟩ = some (.slice (h.A 1) (h.n 1) (h.c 1))) := Lib.hid (fun W hW => (hW.cell (p := ⟨w.heap.size, 1, none⟩) (by simp; omega)).trans (by rw [hW0]; simp [go_sem]))
 have HRX : Hid (∀ W, Below W0.heap.size W0 W → W.heap[w.heap.size + 1]? = some (.cells zeroL.toArray 71 (0, 0))) := Lib.hid (fun W hW => (hW.block _ (by omega)).trans (by
  rw [hW0]
  have := heap_alloc_new (w.alloc (.cells #[.slice (h.A 0) (h.n 0) (h.c 0), .slice (h.A 1) (h.n 1) (h.c 1), .slice (h.A 2) (h.n 2) (h.c 2), .slice (h.A 3) (h.n 3) (h.c 3), .slice (h.A 4) (h.n 4) (h.c 4), .slice (h.A 5) (h.n 5) (h.c 5), .slice (h.A 6) (h.n 6) (h.c 6), .slice (h.A 7) (h.n 7) (h.c 7), .slice (h.A 8) (h.n 8) (h.c 8), .slice (h.A 9) (h.n 9) (h.c 9), .slice (h.A 10) (h.n 10) (h.c 10), .slice (h.A 11) (h.n 11) (h.c 11), .slice (h.A 12) (h.n 12) (h.c 12), .slice (h.A 13) (h.n 13) (h.c 13), .int .i64 h.z] 37)) (.cells zeroL.toArray 71)
  simpa [zeroL] using this))
 have HFI : Hid (∀ W, Below W0.heap.size W0 W → Calls Tryz.prog 92 #[.agg #[tvL], .slice (h.A 1) (h.n 1) (h.c 1), .agg #[.string s, .string t, .int .i64 0]] W fun e w' => e = .returned (firstV (atL L s t)) ∧ Below W.heap.size W w') := Lib.hid (fun W hW =>
  findLot (h.A 1) (h.n 1) (h.c 1) 99 #[] ordL (keyL s t) L W hn hn6 hL (keyL_fits s t) ((hr.below (hb0.trans (hW.mono (by omega)))).mono (hb0.trans (hW.mono (by omega))).size) (tellsL W))
 have HN := Lib.hid hn
 have HL := Lib.hid hL
 have HR := Lib.hid hr
 have HB0 := Lib.hid hb0
 have HS0 := Lib.hid hs0
 have H : Hid (Below W0.heap.size W0 W0.drew) := Lib.hid (Below.refl _ _).drew
 have hu := Tryz.underlying71
 have HSZ : Hid (∀ y, Fits kLot y → (Tryz.prog.info? 71).map (·.size) = some y.toArray.size) := Lib.hid (fun y hy => by rw [show (Tryz.prog.info? 71).map (·.size) = some 3 from by kernel_rfl, List.size_toArray, hy.length]; rfl)
 clear hn hL hr hb0 hs0
 obtain ⟨o, ho⟩ : ∃ o, atL L s t = o := ⟨_, rfl⟩
 rw [ho] at HFI ⊢
 have HO := Lib.hid ho
 clear ho
 cases o with
 | none =>
  rw [firstV_none] at HFI
  unfold Hs.val
  go_enter Tryz.func82, Tryz.ntmps82
  go_wp2_with fail
  rw [← hW0]
  clear hW0
  go_region_held3 (fun w' => w'.cell? ⟨w.heap.size, 1, none⟩ = some (.slice (h.A 1) (h.n 1) (h.c 1)))
   (first | exact HBX.out _ H.out)
   (first
    | (go_at_call 91; refine (bykey_any _).mono ?_; rintro e w' ⟨rfl, hb'⟩; have H := Lib.hid (H.out.trans (hb'.mono H.out.size)); clear hb')
    | (go_at_call 92; refine (HFI.out _ H.out).mono ?_; rintro e w' ⟨rfl, hb'⟩; have H := Lib.hid (H.out.trans (hb'.mono H.out.size)); clear hb'))
  have HRW := Lib.hid (HRX.out _ H.out)
  go_wp2_with (first
   | (refine wpList_store_row rfl 71 (.tmp 6) (.tmp 22) rfl (w.heap.size + 1) zeroL.toArray rfl rfl _ _ HRW.out (HSZ.out _ zeroL_fits) rfl (by simp [zeroL, Value.oneCell']) ?_)
   | fail)
  have HBE : Hid (Below w.heap.size w (w'.setRow (w.heap.size + 1) zeroL.toArray)) := Lib.hid (by
   have hb := HB0.out.trans (H.out.mono HB0.out.size)
   exact ⟨hb.os, hb.tape, hb.output, by simpa using hb.size, fun k hk => (setRow_other _ _ k _ (by omega)).trans (hb.block k hk)⟩)
  have HG : Hid (gotL L s t = zeroL) := Lib.hid (by unfold gotL; rw [HO.out])
  exact bodyPost_ret (results_row_tmp rfl _ _ (w.heap.size + 1) _ _ _ _ rfl (setRow_heap _ _ _ _ _ _ HRW.out) hu rfl (HSZ.out _ zeroL_fits)) rfl ⟨by rw [HG.out]; rfl, HBE.out⟩
 | some i =>
  rw [firstV_some] at HFI
  have hl : i < L.length := Pl.firstG_lt HO.out
  have hin : i < h.n 1 := by rw [HN.out]; exact hl
  obtain ⟨b, off, hA, hb, hc⟩ := HR.out.thing HL.out (by decide) hl
  have HG : Hid (gotL L s t = L[i]) := Lib.hid (by unfold gotL; rw [HO.out]; simp only []; rw [List.getD_eq_getElem?_getD, List.getElem?_eq_getElem hl]; rfl)
  have fx := HL.out _ (List.getElem_mem hl)
  have r1 := hc i hl
  rw [show kLot.length = 3 from rfl] at r1
  obtain ⟨x, hx⟩ : ∃ x, L[i] = x := ⟨_, rfl⟩
  rw [hx] at fx r1 HG
  have HF := Lib.hid fx
  have HR1 : Hid (∀ W, Below W0.heap.size W0 W → W.rangeAt b (off + i * 3) x) := Lib.hid (fun W hW => rangeAt_below r1 hb (HB0.out.trans (hW.mono HB0.out.size)))
  have hlb : b < w.heap.size := hb
  have HIX : Hid ((Tryz.prog.info? 71).map (·.size) = some x.length) := Lib.hid (by have := HSZ.out x fx; rwa [List.size_toArray] at this)
  have HOZ : Hid (zeroL.toArray.size = x.toArray.size) := Lib.hid (by rw [List.size_toArray, List.size_toArray, fx.length]; rfl)
  have HOC : Hid (x.toArray.all (·.oneCell') = true) := Lib.hid (all_oneCell_toArray (fits_one fx))
  have h1 : (0 : Int) ≤ (i : Int) := by omega
  have h2 : (i : Int) < (h.n 1 : Int) := by omega
  rw [hA] at HBX HFI hW0
  unfold Hs.val
  rw [hA]
  clear hc r1 hx fx hb hA HR hl
  go_enter Tryz.func82, Tryz.ntmps82
  go_wp2_with fail
  rw [← hW0]
  clear hW0
  go_region_held3 (fun w' => w'.cell? ⟨w.heap.size, 1, none⟩ = some (.slice (some ⟨b, off, none⟩) (h.n 1) (h.c 1)))
   (first | exact HBX.out _ H.out)
   (first
    | (go_at_call 91; refine (bykey_any _).mono ?_; rintro e w' ⟨rfl, hb'⟩; have H := Lib.hid (H.out.trans (hb'.mono H.out.size)); clear hb')
    | (go_at_call 92; refine (HFI.out _ H.out).mono ?_; rintro e w' ⟨rfl, hb'⟩; have H := Lib.hid (H.out.trans (hb'.mono H.out.size)); clear hb'))
  have HRW := Lib.hid (HRX.out _ H.out)
  have HRM := Lib.hid (HR1.out _ H.out)
  have c0 := HBX.out _ H.out
  go_wp2_with (first
   | (refine wpList_load_mid rfl 71 (.tmp 26) rfl b (off + i * 3) rfl x _ HRM.out hu rfl HIX.out ?_)
   | (refine wpList_store_row rfl 71 (.tmp 6) (.tmp 27) rfl (w.heap.size + 1) x.toArray rfl rfl _ _ HRW.out (HSZ.out _ HF.out) HOZ.out HOC.out ?_)
   | fail)
  have HBE : Hid (Below w.heap.size w (w'.setRow (w.heap.size + 1) x.toArray)) := Lib.hid (by
   have hb := HB0.out.trans (H.out.mono HB0.out.size)
   exact ⟨hb.os, hb.tape, hb.output, by simpa using hb.size, fun k hk => (setRow_other _ _ k _ (by omega)).trans (hb.block k hk)⟩)
  exact bodyPost_ret (results_row_tmp rfl _ _ (w.heap.size + 1) _ _ _ _ rfl (setRow_heap _ _ _ _ _ _ HRW.out) hu rfl (HSZ.out _ HF.out)) rfl ⟨by rw [HG.out]; rfl, HBE.out⟩
/-- A lot's three cells, an item's fourteen. -/
theorem lot_threeK {h : Hs} {L : Nat → List (List Value)} {w : World} (hh : HT h L w) (s t : ByteArray) : ∃ a c z, gotL (L 1) s t = [.string a, .string c, .int .i64 z] ∧ expL (gotL (L 1) s t) = z :=
 ⟨_, _, _, lot_cells (gotL_fits (hh 1 (by decide)).2.2.1 s t), rfl⟩
theorem cfindL {h : Hs} {L : Nat → List (List Value)} {w : World} (hh : HT h L w) (s t : ByteArray) : Calls Tryz.prog 82 #[.agg h.cells, .string s, .string t] w fun e w' => e = .returned (.tuple #[.agg (gotL (L 1) s t).toArray, .bool (atL (L 1) s t).isSome]) ∧ Below w.heap.size w w' :=
 findl_any h (L 1) s t w (hh 1 (by decide)).1 (hh 1 (by decide)).2.1 (hh 1 (by decide)).2.2.1 (hh 1 (by decide)).2.2.2

theorem wpList_house {P : Program} {ops : Array Oper} {rest : List Oper} {o : Oper} {a : Act} {w : World} {Q : Exit → Act → World → Prop} (ty : TypeId) (x : Operand) (ho : o.op = .load ty x) (dst : Option Tmp) (hdst : o.dst = dst) (g : Nat) (hx : a.eval x = .pointer (some ⟨g, 0, none⟩)) (t : TypeId) (cs : Array Value) (fr : Nat × Nat) (d : TypeDesc)
 (hg : w.heap[g]? = some (.cells cs t fr)) (hu : P.underlying ty = some d) (hd : (match d with | .struct _ | .array _ _ => true | _ => false) = true) (hi : (P.info? ty).map (·.size) = some cs.size) (hw : Region.wanted o (yielded ops a.tmps) = true) (h : wpList P ops Q rest (a.put dst (.agg cs)) w) : wpList P ops Q (o :: rest) a w := by
 subst hdst
 exact BigFrame.wpList_want hw fun K hK => wp_load_row ty x ho g hx t cs fr d hg hu hd hi (hK _ _ h)
theorem got_none {LL : List (List Value)} {s t : ByteArray} (h : (atL LL s t).isSome = false) : gotL LL s t = zeroL := by
 unfold gotL
 cases hc : atL LL s t with
 | none => rfl
 | some i => rw [hc] at h; cases h
set_option maxRecDepth 100000 in
theorem cday_any (h : Hs) (L : Nat → List (List Value)) (s t : ByteArray) (w : World) (hh : HT h L w) : Calls Tryz.prog 69 #[.agg h.cells, .string s, .string t] w fun e w' => e = .returned (.int .i64 (dayZ (L 1) s t)) ∧ Below w.heap.size w w' := by
  obtain ⟨a, c, z, hg, hz⟩ := lot_threeK hh s t
  have HFL := Lib.hid (fun W (hW : Below w.heap.size w W) => cfindL (hh.below hW) s t)
  have HDZ : Hid (dayZ (L 1) s t = if z = 0 then 100001 else z) := Lib.hid (by unfold dayZ; rw [hz])
  have hgn := fun hf => (congrArg expL (got_none (LL := L 1) (s := s) (t := t) hf)).symm.trans hz
  rw [hg] at HFL
  obtain ⟨b, hb⟩ : ∃ b, (atL (L 1) s t).isSome = b := ⟨_, rfl⟩
  rw [hb] at HFL hgn
  obtain ⟨d, hd⟩ : ∃ d, dayZ (L 1) s t = d := ⟨_, rfl⟩
  rw [hd] at HDZ ⊢
  clear hb hd hg hz hh
  have huh := Tryz.underlying37
  have HSH : Hid (∀ a : Hs, (Tryz.prog.info? 37).map (·.size) = some a.cells.size) := Lib.hid (fun a => by kernel_rfl)
  have HB0 : Hid (Below w.heap.size w (w.alloc (.cells h.cells 37))) := Lib.hid ((Below.refl _ _).alloc (Nat.le_refl _) _)
  have HH0 : Hid ((w.alloc (.cells h.cells 37)).heap[w.heap.size]? = some (.cells h.cells 37 (0, 0))) := Lib.hid (heap_alloc_new _ _)
  go_enter Tryz.func69, Tryz.ntmps69
  go_wp2_with (first
    | (refine wpList_load_row rfl 37 (.tmp 3) rfl w.heap.size rfl _ _ _ _ HH0.out huh rfl (HSH.out _) ?_)
    | fail)
  refine (HFL.out _ HB0.out).mono ?_
  rintro e w1 ⟨rfl, hb1⟩
  have B1 : Hid (Below w.heap.size w (w1.alloc (.cells #[.string a, .string c, .int .i64 z] 71))) := Lib.hid ((HB0.out.trans (hb1.mono HB0.out.size)).alloc (HB0.out.trans (hb1.mono HB0.out.size)).size _)
  clear hb1
  cases b with
  | false =>
    have hz : z = 0 := (hgn rfl).symm
    have HE : Hid (d = 100001) := Lib.hid (by rw [HDZ.out, if_pos hz])
    clear hgn
    subst hz
    go_wp2_with fail
    go_ret
    exact ⟨by rw [HE.out]; rfl, B1.out⟩
  | true =>
    clear hgn
    by_cases hz : z = 0
    · have HE : Hid (d = 100001) := Lib.hid (by rw [HDZ.out, if_pos hz])
      subst hz
      go_wp2_with fail
      go_ret
      exact ⟨by rw [HE.out]; rfl, B1.out⟩
    · have HE : Hid (d = z) := Lib.hid (by rw [HDZ.out, if_neg hz])
      go_wp2_with fail
      go_ret
      exact ⟨by rw [HE.out]; rfl, B1.out⟩

end Go.Proofs.YtnkhnbpopdmkhaaGreat
