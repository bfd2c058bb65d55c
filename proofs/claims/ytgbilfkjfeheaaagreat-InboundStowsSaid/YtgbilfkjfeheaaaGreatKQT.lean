/-
 CONTRACT of stock's Take.
-/
import Derived.Test.YtgbilfkjfeheaaaGreatKQ
namespace Go.Proofs.YtgbilfkjfeheaaaGreat
set_option linter.unusedVariables false
open Go.RowKit
open Pl (firstG findG putG dropG It)

set_option maxRecDepth 100000 in
set_option maxHeartbeats 3200000 in
theorem ctake (h : Hs) (L : Nat → List (List Value)) (kb ki kl : ByteArray) (ks : Int) (n : Int) (w : World) (hh : HT h L w) (hn4 : h.n 4 ≤ 9000) (hc1 : h.n 4 ≤ h.c 4 ∧ h.c 4 ≤ 9223372036854775807) :
 Calls Tryz.prog 124 #[.agg h.cells, .agg #[.string kb, .string ki, .string kl, .int .i64 ks], .int .i64 n] w (PutP 71 6 4 (takeE (L 4) (Ky.mk kb ki kl ks) n) (takeL (L 4) (Ky.mk kb ki kl ks) n) h w) := by
 obtain ⟨y, hy, hyb⟩ := quant_six hh (Ky.mk kb ki kl ks)
 obtain ⟨iq, hiq⟩ : ∃ z, (atQ (L 4) (Ky.mk kb ki kl ks)).isSome = z := ⟨_, rfl⟩
 obtain ⟨er, her⟩ : ∃ r, takeE (L 4) (Ky.mk kb ki kl ks) n = r := ⟨_, rfl⟩
 have HKY : Hid (iq = true → y.bin = kb ∧ y.item = ki ∧ y.lot = kl ∧ y.st = ks) := Lib.hid (fun h1 => by
  have := gotQ_ky (L := L 4) (k := (Ky.mk kb ki kl ks)) (by rw [hiq]; exact h1)
  rw [hyb] at this
  injection this with a1 a2 a3 a4
  exact ⟨a1, a2, a3, a4⟩)
 have HZY : Hid (iq = false → y.qty = 0 ∧ y.held = 0) := Lib.hid (fun h1 => by
  have h2 : gotQ (L 4) (Ky.mk kb ki kl ks) = zeroQuant := by
   unfold gotQ
   cases hc : atQ (L 4) (Ky.mk kb ki kl ks) with
   | none => rfl
   | some i => rw [hc] at hiq; rw [← hiq] at h1; cases h1
  rw [h2] at hyb
  rw [← hyb]; exact ⟨rfl, rfl⟩)
 have CQ : Hid (∀ W, Below w.heap.size w W → Calls Tryz.prog 108 #[.agg h.cells, .agg #[.string kb, .string ki, .string kl, .int .i64 ks]] W fun e w' => e = .returned (.tuple #[.agg #[.string y.bin, .string y.item, .string y.lot, .int .i64 y.st, .int .i64 y.qty, .int .i64 y.held], .bool iq]) ∧ Below W.heap.size W w') := Lib.hid (fun W hW => by have := fcq (hh.below hW) kb ki kl ks; rw [hy, hiq] at this; exact this)
 have HUP : Hid (∀ (x : Qn) W, Below w.heap.size w W → Calls Tryz.prog 109 #[.agg h.cells, .agg #[.string x.bin, .string x.item, .string x.lot, .int .i64 x.st, .int .i64 x.qty, .int .i64 x.held]] W fun e w' => Below W.heap.size W w' ∧ ∃ A n c, n = (upQ (L 4) x).length ∧ w'.ownsRow W.heap.size 71 6 (.slice A n c) n (upQ (L 4) x).flatten ∧ e = .returned (.agg (h.set 4 A n c).cells)) := Lib.hid (fun x W hW => cwith h L _ _ _ _ _ _ W (hh.below hW) hn4 hc1)
 obtain ⟨r1, hr1⟩ : ∃ r, (decide ((1 : Int) ≤ n) && decide (n ≤ 1000000000)) = r := ⟨_, rfl⟩
 have CR : Hid (∀ W, Calls Tryz.prog 107 #[.int .i64 n, .int .i64 (1), .int .i64 1000000000] W fun e w' => e = .returned (.bool r1) ∧ w' = W) := Lib.hid (fun W => by have := cinr n (1) 1000000000 W; rwa [hr1] at this)
 have HRR : Hid (r1 = false ↔ (n < 1 ∨ 1000000000 < n)) := Lib.hid (by rw [← hr1, Bool.and_eq_false_iff, decide_eq_false_iff_not, decide_eq_false_iff_not]; constructor <;> intro h <;> omega)
 clear hr1
 have HA : Hid (er = if r1 = false then 10 else if iq = false then 12 else if y.qty < n then 27 else if wrap64 (y.qty - y.held) < n then 28 else 0) := Lib.hid (by rw [← her]; unfold takeE; rw [hiq, hyb]; simp only [HRR.out])
 have HLX : Hid (iq = true → takeL (L 4) (Ky.mk kb ki kl ks) n = upQ (L 4) ⟨y.bin, y.item, y.lot, y.st, wrap64 (y.qty - n), y.held⟩) := Lib.hid (fun h1 => by obtain ⟨a1, a2, a3, a4⟩ := HKY.out h1; unfold takeL; rw [hyb, a1, a2, a3, a4])
 obtain ⟨lx, hlx⟩ : ∃ l, takeL (L 4) (Ky.mk kb ki kl ks) n = l := ⟨_, rfl⟩
 rw [hlx] at HLX ⊢
 rw [her]
 clear her hiq hy hyb hlx HKY HZY HRR
 obtain ⟨W0, hW0⟩ : ∃ W0, W0 = (((w.alloc (.cells h.cells 37)).alloc (.cells #[.string kb, .string ki, .string kl, .int .i64 ks] 60)).alloc (.cells #[.slice none 0 0, .slice none 0 0, .slice none 0 0, .slice none 0 0, .slice none 0 0, .slice none 0 0, .slice none 0 0, .slice none 0 0, .slice none 0 0, .slice none 0 0, .slice none 0 0, .slice none 0 0, .slice none 0 0, .slice none 0 0, .int .i64 0] 37)) := ⟨_, rfl⟩
 have hb0 : Below w.heap.size w W0 := by rw [hW0]; exact (((Below.refl _ _).alloc (Nat.le_refl _) _).alloc (by simp <;> omega) _).alloc (by simp <;> omega) _
 have hs0 : W0.heap.size = w.heap.size + 3 := by rw [hW0]; simp
 have HH : Hid (∀ W, Below W0.heap.size W0 W → W.heap[w.heap.size]? = some (.cells h.cells 37 (0, 0))) := Lib.hid (fun W hW => (hW.block _ (by omega)).trans (by
  rw [hW0]
  have hq := heap_alloc_new w (.cells h.cells 37)
  exact (Below.heap_alloc _ _ _ (by simp <;> omega)).trans ((Below.heap_alloc _ _ _ (by simp <;> omega)).trans ((by simpa using hq)))))
 have HK : Hid (∀ W, Below W0.heap.size W0 W → W.heap[w.heap.size + 1]? = some (.cells #[.string kb, .string ki, .string kl, .int .i64 ks] 60 (0, 0))) := Lib.hid (fun W hW => (hW.block _ (by omega)).trans (by
  rw [hW0]
  have hq := heap_alloc_new (w.alloc (.cells h.cells 37)) (.cells #[.string kb, .string ki, .string kl, .int .i64 ks] 60)
  exact (Below.heap_alloc _ _ _ (by simp <;> omega)).trans ((by simpa using hq))))
 have HZ : Hid (∀ W, Below W0.heap.size W0 W → W.heap[w.heap.size + 2]? = some (.cells Hs.zero 37 (0, 0))) := Lib.hid (fun W hW => (hW.block _ (by omega)).trans (by
  rw [hW0]
  have hq := heap_alloc_new ((w.alloc (.cells h.cells 37)).alloc (.cells #[.string kb, .string ki, .string kl, .int .i64 ks] 60)) (.cells #[.slice none 0 0, .slice none 0 0, .slice none 0 0, .slice none 0 0, .slice none 0 0, .slice none 0 0, .slice none 0 0, .slice none 0 0, .slice none 0 0, .slice none 0 0, .slice none 0 0, .slice none 0 0, .slice none 0 0, .slice none 0 0, .int .i64 0] 37)
  exact (by simpa [Hs.zero] using hq)))
 have HBW : Hid (∀ W, Below W0.heap.size W0 W → Below w.heap.size w W ∧ w.heap.size + 3 ≤ W.heap.size) := Lib.hid (fun W hW => ⟨hb0.trans (hW.mono (by omega)), by have := hW.size; omega⟩)
 have huh := Tryz.underlying37
 have HSH : Hid (∀ a : Hs, (Tryz.prog.info? 37).map (·.size) = some a.cells.size) := Lib.hid (fun a => by kernel_rfl)
 have HSQ : Hid ((Tryz.prog.info? 37).map (·.size) = some Hs.zero.size) := Lib.hid (by kernel_rfl)
 have H1C : Hid (∀ a : Hs, a.cells.all (·.oneCell') = true) := Lib.hid (fun a => by simp [Hs.cells, Value.oneCell'])
 have H1Q : Hid (Hs.zero.all (·.oneCell') = true) := Lib.hid (by simp [Hs.zero, Value.oneCell'])
 have huHK := Tryz.underlying60
 have HSHK : Hid ((Tryz.prog.info? 60).map (·.size) = some 4) := Lib.hid (by kernel_rfl)
 have HCHK : Hid (∀ W, Below W0.heap.size W0 W → W.cell? ⟨w.heap.size + 1, 0, none⟩ = some (.string kb) ∧ W.cell? ⟨w.heap.size + 1, 1, none⟩ = some (.string ki) ∧ W.cell? ⟨w.heap.size + 1, 2, none⟩ = some (.string kl) ∧ W.cell? ⟨w.heap.size + 1, 3, none⟩ = some (.int .i64 ks) ∧ w.heap.size + 1 < W.heap.size) := Lib.hid (fun W hW => ⟨by rw [cell_of_block (HK.out W hW)]; rfl, by rw [cell_of_block (HK.out W hW)]; rfl, by rw [cell_of_block (HK.out W hW)]; rfl, by rw [cell_of_block (HK.out W hW)]; rfl, by have := hW.size; omega⟩)
 have H0 := Lib.hid (Below.refl W0.heap.size W0)
 clear hb0 hs0 hh hn4 hc1
 subst hW0
 go_enter Tryz.func124, Tryz.ntmps124
 go_wp2_with fail
 refine (CR.out _).mono ?_
 rintro e w2 ⟨rfl, rfl⟩
 cases r1 with
 | false =>
  have HE : Hid (er = 10) := Lib.hid (by rw [HA.out]; rfl)
  go_wp2_with (first
   | (refine wpList_store_row rfl 37 (.tmp 6) (.tmp 13) rfl (w.heap.size + 2) Hs.zero rfl rfl _ _ (HZ.out _ H0.out) HSQ.out rfl H1Q.out ?_)
   | fail)
  exact bodyPost_ret (results_row_tmp rfl _ _ (w.heap.size + 2) _ _ _ _ rfl (setRow_heap _ _ _ _ _ _ (HZ.out _ H0.out)) huh rfl HSQ.out) rfl ⟨setRow_below (HBW.out _ H0.out).1 (by omega) _, .inl ⟨by rw [HE.out]; decide, by rw [HE.out]; rfl⟩⟩
 | true =>
  have HA1 : Hid (er = if iq = false then 12 else if y.qty < n then 27 else if wrap64 (y.qty - y.held) < n then 28 else 0) := Lib.hid (by rw [HA.out]; rfl)
  go_wp2_with (first
   | (refine wpList_load_row rfl 37 (.tmp 3) rfl w.heap.size rfl _ _ _ _ (HH.out _ H0.out) huh rfl (HSH.out _) ?_)
   | (refine wpList_load_row rfl 60 (.tmp 4) rfl (w.heap.size + 1) rfl _ _ _ _ (HK.out _ H0.out) huHK rfl HSHK.out ?_)
   | fail)
  refine (CQ.out _ (HBW.out _ H0.out).1).mono ?_
  rintro e w1 ⟨rfl, hb1⟩
  have H1 := Lib.hid (H0.out.trans (hb1.mono H0.out.size))
  clear hb1
  have H2 := Lib.hid (H1.out.alloc H1.out.size (.cells #[.string y.bin, .string y.item, .string y.lot, .int .i64 y.st, .int .i64 y.qty, .int .i64 y.held] 71))
  cases iq with
  | false =>
   have HE : Hid (er = 12) := Lib.hid (by rw [HA1.out]; rfl)
   go_wp2_with (first
    | (refine wpList_store_row rfl 37 (.tmp 6) (.tmp 22) rfl (w.heap.size + 2) Hs.zero rfl rfl _ _ (HZ.out _ H2.out) HSQ.out rfl H1Q.out ?_)
    | fail)
   exact bodyPost_ret (results_row_tmp rfl _ _ (w.heap.size + 2) _ _ _ _ rfl (setRow_heap _ _ _ _ _ _ (HZ.out _ H2.out)) huh rfl HSQ.out) rfl ⟨setRow_below (HBW.out _ H2.out).1 (by omega) _, .inl ⟨by rw [HE.out]; decide, by rw [HE.out]; rfl⟩⟩
  | true =>
   have HA2 : Hid (er = if y.qty < n then 27 else if wrap64 (y.qty - y.held) < n then 28 else 0) := Lib.hid (by rw [HA1.out]; rfl)
   have HLE0 := Lib.hid (HLX.out rfl)
   by_cases q3 : y.qty < n
   ·
    have HE : Hid (er = 27) := Lib.hid (by rw [HA2.out, if_pos q3])
    go_wp2_with (first
     | (refine wpList_store_row rfl 37 (.tmp 6) (.tmp 27) rfl (w.heap.size + 2) Hs.zero rfl rfl _ _ (HZ.out _ H2.out) HSQ.out rfl H1Q.out ?_)
     | fail)
    exact bodyPost_ret (results_row_tmp rfl _ _ (w.heap.size + 2) _ _ _ _ rfl (setRow_heap _ _ _ _ _ _ (HZ.out _ H2.out)) huh rfl HSQ.out) rfl ⟨setRow_below (HBW.out _ H2.out).1 (by omega) _, .inl ⟨by rw [HE.out]; decide, by rw [HE.out]; rfl⟩⟩
   ·
    go_wp2_with fail
    refine (cfree y.bin y.item y.lot y.st y.qty y.held _).mono ?_
    rintro e w3 ⟨rfl, rfl⟩
    have H3 := Lib.hid (H2.out.alloc H2.out.size (.cells #[.string y.bin, .string y.item, .string y.lot, .int .i64 y.st, .int .i64 y.qty, .int .i64 y.held] 71))
    by_cases q4 : wrap64 (y.qty - y.held) < n
    ·
     have HE : Hid (er = 28) := Lib.hid (by rw [HA2.out, if_neg (by omega), if_pos q4])
     go_wp2_with (first
      | (refine wpList_store_row rfl 37 (.tmp 6) (.tmp 32) rfl (w.heap.size + 2) Hs.zero rfl rfl _ _ (HZ.out _ H3.out) HSQ.out rfl H1Q.out ?_)
      | fail)
     exact bodyPost_ret (results_row_tmp rfl _ _ (w.heap.size + 2) _ _ _ _ rfl (setRow_heap _ _ _ _ _ _ (HZ.out _ H3.out)) huh rfl HSQ.out) rfl ⟨setRow_below (HBW.out _ H3.out).1 (by omega) _, .inl ⟨by rw [HE.out]; decide, by rw [HE.out]; rfl⟩⟩
    · have HE : Hid (er = 0) := Lib.hid (by rw [HA2.out, if_neg (by omega), if_neg (by omega)])
      have H4 := Lib.hid (H1.out.alloc H1.out.size (.cells #[.string y.bin, .string y.item, .string y.lot, .int .i64 y.st, .int .i64 (wrap64 (y.qty - n)), .int .i64 y.held] 71))
      have H5 := Lib.hid (H4.out.alloc H4.out.size (.cells #[.string y.bin, .string y.item, .string y.lot, .int .i64 y.st, .int .i64 y.qty, .int .i64 y.held] 71))
      go_wp2_with (first
       | (refine wpList_load_row rfl 37 (.tmp 3) rfl w.heap.size rfl _ _ _ _ (HH.out _ H5.out) huh rfl (HSH.out _) ?_)
       | fail)
      have HPU := Lib.hid (fun W hW => HUP.out ⟨y.bin, y.item, y.lot, y.st, wrap64 (y.qty - n), y.held⟩ W hW)
      rw [← HLE0.out] at HPU
      refine (HPU.out _ (HBW.out _ H5.out).1).mono ?_
      rintro e w4 ⟨hb9, A, n, cc, hl, hown, rfl⟩
      have H9 := Lib.hid (H5.out.trans (hb9.mono H5.out.size))
      have HO9 := Lib.hid hown
      have HLE := Lib.hid hl
      have HSZ9 := Lib.hid (HBW.out _ H5.out).2
      clear hb9 hown hl
      go_wp2_with (first
       | (refine wpList_store_row rfl 37 (.tmp 6) (.tmp 40) rfl (w.heap.size + 2) (h.set 4 A n cc).cells rfl rfl _ _ (HZ.out _ H9.out) (HSH.out _) rfl (H1C.out _) ?_)
       | fail)
      exact bodyPost_ret (results_row_tmp rfl _ _ (w.heap.size + 2) _ _ _ _ rfl (setRow_heap _ _ _ _ _ _ (HZ.out _ H9.out)) huh rfl (HSH.out _)) rfl ⟨setRow_below (HBW.out _ H9.out).1 (by omega) _, .inr ⟨HE.out, A, n, cc, HLE.out, own_rowed HO9.out (by have := HSZ9.out; omega) (by have := HSZ9.out; omega), rfl⟩⟩

end Go.Proofs.YtgbilfkjfeheaaaGreat
