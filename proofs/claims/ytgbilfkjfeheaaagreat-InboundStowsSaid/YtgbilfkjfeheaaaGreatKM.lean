/-
 CONTRACTS of the code's Put, frozen, Total. (By wip/tools/gen_qcode.py.)
 CONTRACTS of the code's Move. (By wip/tools/gen_qcode.py.)
 (By wip/tools/merge.py.)
-/
import Derived.Test.YtgbilfkjfeheaaaGreatKQ
import Derived.Test.YtgbilfkjfeheaaaGreatKF
import Derived.Test.YtgbilfkjfeheaaaGreatGT
namespace Go.Proofs.YtgbilfkjfeheaaaGreat
set_option linter.unusedVariables false
open Go.RowKit
open Pl (firstG findG putG dropG It)

set_option maxRecDepth 100000 in
set_option maxHeartbeats 3200000 in
theorem cputq (h : Hs) (L : Nat → List (List Value)) (kb ki kl : ByteArray) (ks : Int) (n : Int) (w : World) (hh : HT h L w) (hn4 : h.n 4 ≤ 9000) (hc1 : h.n 4 ≤ h.c 4 ∧ h.c 4 ≤ 9223372036854775807) :
 Calls Tryz.prog 71 #[.agg h.cells, .agg #[.string kb, .string ki, .string kl, .int .i64 ks], .int .i64 n] w (PutP 71 6 4 (putE (L 4) (Ky.mk kb ki kl ks) n) (putL (L 4) (Ky.mk kb ki kl ks) n) h w) := by
 obtain ⟨y, hy, hyb⟩ := quant_six hh (Ky.mk kb ki kl ks)
 obtain ⟨iq, hiq⟩ : ∃ z, (atQ (L 4) (Ky.mk kb ki kl ks)).isSome = z := ⟨_, rfl⟩
 obtain ⟨er, her⟩ : ∃ r, putE (L 4) (Ky.mk kb ki kl ks) n = r := ⟨_, rfl⟩
 have HKY : Hid (iq = true → y.bin = kb ∧ y.item = ki ∧ y.lot = kl ∧ y.st = ks) := Lib.hid (fun h1 => by
  have := gotQ_ky (L := L 4) (k := (Ky.mk kb ki kl ks)) (by rw [hiq]; exact h1)
  rw [hyb] at this
  injection this with a1 a2 a3 a4
  exact ⟨a1, a2, a3, a4⟩)
 have HZY : Hid (iq = false → y.qty = 0 ∧ y.held = 0) := Lib.hid (fun h1 => by
  have h2 : gotQ (L 4) (Ky.mk kb ki kl ks) = zeroQuant := by
   unfold gotQ
   cases hc : atQ (L 4) (Ky.mk kb ki kl ks) with
   | none => rfl
   | some i => rw [hc] at hiq; rw [← hiq] at h1; cases h1
  rw [h2] at hyb
  rw [← hyb]; exact ⟨rfl, rfl⟩)
 have CQ : Hid (∀ W, Below w.heap.size w W → Calls Tryz.prog 108 #[.agg h.cells, .agg #[.string kb, .string ki, .string kl, .int .i64 ks]] W fun e w' => e = .returned (.tuple #[.agg #[.string y.bin, .string y.item, .string y.lot, .int .i64 y.st, .int .i64 y.qty, .int .i64 y.held], .bool iq]) ∧ Below W.heap.size W w') := Lib.hid (fun W hW => by have := fcq (hh.below hW) kb ki kl ks; rw [hy, hiq] at this; exact this)
 have HUP : Hid (∀ (x : Qn) W, Below w.heap.size w W → Calls Tryz.prog 109 #[.agg h.cells, .agg #[.string x.bin, .string x.item, .string x.lot, .int .i64 x.st, .int .i64 x.qty, .int .i64 x.held]] W fun e w' => Below W.heap.size W w' ∧ ∃ A n c, n = (upQ (L 4) x).length ∧ w'.ownsRow W.heap.size 71 6 (.slice A n c) n (upQ (L 4) x).flatten ∧ e = .returned (.agg (h.set 4 A n c).cells)) := Lib.hid (fun x W hW => cwith h L _ _ _ _ _ _ W (hh.below hW) hn4 hc1)
 obtain ⟨r1, hr1⟩ : ∃ r, (decide ((1 : Int) ≤ n) && decide (n ≤ 1000000000)) = r := ⟨_, rfl⟩
 have CR : Hid (∀ W, Calls Tryz.prog 107 #[.int .i64 n, .int .i64 (1), .int .i64 1000000000] W fun e w' => e = .returned (.bool r1) ∧ w' = W) := Lib.hid (fun W => by have := cinr n (1) 1000000000 W; rwa [hr1] at this)
 have HRR : Hid (r1 = false ↔ (n < 1 ∨ 1000000000 < n)) := Lib.hid (by rw [← hr1, Bool.and_eq_false_iff, decide_eq_false_iff_not, decide_eq_false_iff_not]; constructor <;> intro h <;> omega)
 clear hr1
 have HA : Hid (er = if r1 = false then 10 else if iq = false then (if 256 ≤ h.n 4 then 16 else 0) else if 1000000000 - n < y.qty then 10 else 0) := Lib.hid (by rw [← her]; unfold putE; rw [hiq, hyb, (hh 4 (by decide)).1]; simp only [HRR.out])
 have HLX : Hid (r1 = true → putL (L 4) (Ky.mk kb ki kl ks) n = upQ (L 4) ⟨kb, ki, kl, ks, wrap64 (y.qty + n), y.held⟩) := Lib.hid (fun h1 => by
  have hr : ¬ (n < 1 ∨ 1000000000 < n) := fun h2 => by rw [HRR.out.2 h2] at h1; cases h1
  unfold putL putX
  cases iq with
  | true => rw [if_neg (by rw [hiq]; simp), hyb]
  | false => rw [if_pos hiq, (HZY.out rfl).1, (HZY.out rfl).2, Int.zero_add, w64 (by omega) (by omega)])
 have HR64 : Hid (r1 = true → wrap64 (1000000000 - n) = 1000000000 - n) := Lib.hid (fun h1 => by
  have hr : ¬ (n < 1 ∨ 1000000000 < n) := fun h2 => by rw [HRR.out.2 h2] at h1; cases h1
  exact w64 (by omega) (by omega))
 obtain ⟨lx, hlx⟩ : ∃ l, putL (L 4) (Ky.mk kb ki kl ks) n = l := ⟨_, rfl⟩
 rw [hlx] at HLX ⊢
 rw [her]
 obtain ⟨m, hmm⟩ : ∃ m, h.n 4 = m := ⟨_, rfl⟩
 rw [hmm] at HA
 have HMM := Lib.hid hmm
 clear her hiq hy hyb hlx HKY HZY HRR hmm
 obtain ⟨W0, hW0⟩ : ∃ W0, W0 = (((w.alloc (.cells h.cells 37)).alloc (.cells #[.string kb, .string ki, .string kl, .int .i64 ks] 60)).alloc (.cells #[.slice none 0 0, .slice none 0 0, .slice none 0 0, .slice none 0 0, .slice none 0 0, .slice none 0 0, .slice none 0 0, .slice none 0 0, .slice none 0 0, .slice none 0 0, .slice none 0 0, .slice none 0 0, .slice none 0 0, .slice none 0 0, .int .i64 0] 37)) := ⟨_, rfl⟩
 have hb0 : Below w.heap.size w W0 := by rw [hW0]; exact (((Below.refl _ _).alloc (Nat.le_refl _) _).alloc (by simp <;> omega) _).alloc (by simp <;> omega) _
 have hs0 : W0.heap.size = w.heap.size + 3 := by rw [hW0]; simp
 have HH : Hid (∀ W, Below W0.heap.size W0 W → W.heap[w.heap.size]? = some (.cells h.cells 37 (0, 0))) := Lib.hid (fun W hW => (hW.block _ (by omega)).trans (by
  rw [hW0]
  have hq := heap_alloc_new w (.cells h.cells 37)
  exact (Below.heap_alloc _ _ _ (by simp <;> omega)).trans ((Below.heap_alloc _ _ _ (by simp <;> omega)).trans ((by simpa using hq)))))
 have HK : Hid (∀ W, Below W0.heap.size W0 W → W.heap[w.heap.size + 1]? = some (.cells #[.string kb, .string ki, .string kl, .int .i64 ks] 60 (0, 0))) := Lib.hid (fun W hW => (hW.block _ (by omega)).trans (by
  rw [hW0]
  have hq := heap_alloc_new (w.alloc (.cells h.cells 37)) (.cells #[.string kb, .string ki, .string kl, .int .i64 ks] 60)
  exact (Below.heap_alloc _ _ _ (by simp <;> omega)).trans ((by simpa using hq))))
 have HZ : Hid (∀ W, Below W0.heap.size W0 W → W.heap[w.heap.size + 2]? = some (.cells Hs.zero 37 (0, 0))) := Lib.hid (fun W hW => (hW.block _ (by omega)).trans (by
  rw [hW0]
  have hq := heap_alloc_new ((w.alloc (.cells h.cells 37)).alloc (.cells #[.string kb, .string ki, .string kl, .int .i64 ks] 60)) (.cells #[.slice none 0 0, .slice none 0 0, .slice none 0 0, .slice none 0 0, .slice none 0 0, .slice none 0 0, .slice none 0 0, .slice none 0 0, .slice none 0 0, .slice none 0 0, .slice none 0 0, .slice none 0 0, .slice none 0 0, .slice none 0 0, .int .i64 0] 37)
  exact (by simpa [Hs.zero] using hq)))
 have HBW : Hid (∀ W, Below W0.heap.size W0 W → Below w.heap.size w W ∧ w.heap.size + 3 ≤ W.heap.size) := Lib.hid (fun W hW => ⟨hb0.trans (hW.mono (by omega)), by have := hW.size; omega⟩)
 have huh := Tryz.underlying37
 have HSH : Hid (∀ a : Hs, (Tryz.prog.info? 37).map (·.size) = some a.cells.size) := Lib.hid (fun a => by kernel_rfl)
 have HSQ : Hid ((Tryz.prog.info? 37).map (·.size) = some Hs.zero.size) := Lib.hid (by kernel_rfl)
 have H1C : Hid (∀ a : Hs, a.cells.all (·.oneCell') = true) := Lib.hid (fun a => by simp [Hs.cells, Value.oneCell'])
 have H1Q : Hid (Hs.zero.all (·.oneCell') = true) := Lib.hid (by simp [Hs.zero, Value.oneCell'])
 have huHK := Tryz.underlying60
 have HSHK : Hid ((Tryz.prog.info? 60).map (·.size) = some 4) := Lib.hid (by kernel_rfl)
 have HCHK : Hid (∀ W, Below W0.heap.size W0 W → W.cell? ⟨w.heap.size + 1, 0, none⟩ = some (.string kb) ∧ W.cell? ⟨w.heap.size + 1, 1, none⟩ = some (.string ki) ∧ W.cell? ⟨w.heap.size + 1, 2, none⟩ = some (.string kl) ∧ W.cell? ⟨w.heap.size + 1, 3, none⟩ = some (.int .i64 ks) ∧ w.heap.size + 1 < W.heap.size) := Lib.hid (fun W hW => ⟨by rw [cell_of_block (HK.out W hW)]; rfl, by rw [cell_of_block (HK.out W hW)]; rfl, by rw [cell_of_block (HK.out W hW)]; rfl, by rw [cell_of_block (HK.out W hW)]; rfl, by have := hW.size; omega⟩)
 have HL4 : Hid (∀ W, Below W0.heap.size W0 W → W.cell? ⟨w.heap.size, 4, none⟩ = some (.slice (h.A 4) m (h.c 4)) ∧ w.heap.size < W.heap.size) := Lib.hid (fun W hW => ⟨by rw [cell_of_block (HH.out W hW), ← HMM.out]; rfl, by have := hW.size; omega⟩)
 have H0 := Lib.hid (Below.refl W0.heap.size W0)
 clear hb0 hs0 hh hn4 hc1
 subst hW0
 go_enter Tryz.func71, Tryz.ntmps71
 go_wp2_with fail
 refine (CR.out _).mono ?_
 rintro e w2 ⟨rfl, rfl⟩
 cases r1 with
 | false =>
  have HE : Hid (er = 10) := Lib.hid (by rw [HA.out]; rfl)
  go_wp2_with (first
   | (refine wpList_store_row rfl 37 (.tmp 6) (.tmp 13) rfl (w.heap.size + 2) Hs.zero rfl rfl _ _ (HZ.out _ H0.out) HSQ.out rfl H1Q.out ?_)
   | fail)
  exact bodyPost_ret (results_row_tmp rfl _ _ (w.heap.size + 2) _ _ _ _ rfl (setRow_heap _ _ _ _ _ _ (HZ.out _ H0.out)) huh rfl HSQ.out) rfl ⟨setRow_below (HBW.out _ H0.out).1 (by omega) _, .inl ⟨by rw [HE.out]; decide, by rw [HE.out]; rfl⟩⟩
 | true =>
  have HA1 : Hid (er = if iq = false then (if 256 ≤ m then 16 else 0) else if 1000000000 - n < y.qty then 10 else 0) := Lib.hid (by rw [HA.out]; rfl)
  have HLE0 := Lib.hid (HLX.out rfl)
  have hw64 := HR64.out rfl
  go_wp2_with (first
   | (refine wpList_load_row rfl 37 (.tmp 3) rfl w.heap.size rfl _ _ _ _ (HH.out _ H0.out) huh rfl (HSH.out _) ?_)
   | (refine wpList_load_row rfl 60 (.tmp 4) rfl (w.heap.size + 1) rfl _ _ _ _ (HK.out _ H0.out) huHK rfl HSHK.out ?_)
   | fail)
  refine (CQ.out _ (HBW.out _ H0.out).1).mono ?_
  rintro e w1 ⟨rfl, hb1⟩
  have H1 := Lib.hid (H0.out.trans (hb1.mono H0.out.size))
  clear hb1
  have H2 := Lib.hid (H1.out.alloc H1.out.size (.cells #[.string y.bin, .string y.item, .string y.lot, .int .i64 y.st, .int .i64 y.qty, .int .i64 y.held] 71))
  cases iq with
  | false =>
   have HA2 : Hid (er = if 256 ≤ m then 16 else 0) := Lib.hid (by rw [HA1.out]; rfl)
   obtain ⟨d4, dlt⟩ := HL4.out _ H2.out
   by_cases q3 : 256 ≤ m
   ·
    have HE : Hid (er = 16) := Lib.hid (by rw [HA2.out, if_pos q3])
    go_wp2_with (first
     | (refine wpList_store_row rfl 37 (.tmp 6) (.tmp 37) rfl (w.heap.size + 2) Hs.zero rfl rfl _ _ (HZ.out _ H2.out) HSQ.out rfl H1Q.out ?_)
     | fail)
    exact bodyPost_ret (results_row_tmp rfl _ _ (w.heap.size + 2) _ _ _ _ rfl (setRow_heap _ _ _ _ _ _ (HZ.out _ H2.out)) huh rfl HSQ.out) rfl ⟨setRow_below (HBW.out _ H2.out).1 (by omega) _, .inl ⟨by rw [HE.out]; decide, by rw [HE.out]; rfl⟩⟩
   · have HE : Hid (er = 0) := Lib.hid (by rw [HA2.out, if_neg q3])
     have H4 := Lib.hid (H1.out.alloc H1.out.size (.cells #[.string kb, .string ki, .string kl, .int .i64 ks, .int .i64 (wrap64 (y.qty + n)), .int .i64 y.held] 71))
     go_wp2_with (first
      | (refine wpList_load_row rfl 37 (.tmp 3) rfl w.heap.size rfl _ _ _ _ (HH.out _ H4.out) huh rfl (HSH.out _) ?_)
      | (refine wpList_load_row rfl 60 (.tmp 4) rfl (w.heap.size + 1) rfl _ _ _ _ (HK.out _ H2.out) huHK rfl HSHK.out ?_)
      | fail)
     have HPU := Lib.hid (fun W hW => HUP.out ⟨kb, ki, kl, ks, wrap64 (y.qty + n), y.held⟩ W hW)
     rw [← HLE0.out] at HPU
     refine (HPU.out _ (HBW.out _ H4.out).1).mono ?_
     rintro e w4 ⟨hb9, A, n, cc, hl, hown, rfl⟩
     have H9 := Lib.hid (H4.out.trans (hb9.mono H4.out.size))
     have HO9 := Lib.hid hown
     have HLE := Lib.hid hl
     have HSZ9 := Lib.hid (HBW.out _ H4.out).2
     clear hb9 hown hl
     go_wp2_with (first
      | (refine wpList_store_row rfl 37 (.tmp 6) (.tmp 47) rfl (w.heap.size + 2) (h.set 4 A n cc).cells rfl rfl _ _ (HZ.out _ H9.out) (HSH.out _) rfl (H1C.out _) ?_)
      | fail)
     exact bodyPost_ret (results_row_tmp rfl _ _ (w.heap.size + 2) _ _ _ _ rfl (setRow_heap _ _ _ _ _ _ (HZ.out _ H9.out)) huh rfl (HSH.out _)) rfl ⟨setRow_below (HBW.out _ H9.out).1 (by omega) _, .inr ⟨HE.out, A, n, cc, HLE.out, own_rowed HO9.out (by have := HSZ9.out; omega) (by have := HSZ9.out; omega), rfl⟩⟩
  | true =>
   have HA2 : Hid (er = if 1000000000 - n < y.qty then 10 else 0) := Lib.hid (by rw [HA1.out]; rfl)
   by_cases q3 : 1000000000 - n < y.qty
   ·
    have HE : Hid (er = 10) := Lib.hid (by rw [HA2.out, if_pos q3])
    go_wp2_with (first
     | (refine wpList_store_row rfl 37 (.tmp 6) (.tmp 28) rfl (w.heap.size + 2) Hs.zero rfl rfl _ _ (HZ.out _ H2.out) HSQ.out rfl H1Q.out ?_)
     | fail)
    exact bodyPost_ret (results_row_tmp rfl _ _ (w.heap.size + 2) _ _ _ _ rfl (setRow_heap _ _ _ _ _ _ (HZ.out _ H2.out)) huh rfl HSQ.out) rfl ⟨setRow_below (HBW.out _ H2.out).1 (by omega) _, .inl ⟨by rw [HE.out]; decide, by rw [HE.out]; rfl⟩⟩
   · have HE : Hid (er = 0) := Lib.hid (by rw [HA2.out, if_neg q3])
     have H4 := Lib.hid (H1.out.alloc H1.out.size (.cells #[.string kb, .string ki, .string kl, .int .i64 ks, .int .i64 (wrap64 (y.qty + n)), .int .i64 y.held] 71))
     go_wp2_with (first
      | (refine wpList_load_row rfl 37 (.tmp 3) rfl w.heap.size rfl _ _ _ _ (HH.out _ H4.out) huh rfl (HSH.out _) ?_)
      | (refine wpList_load_row rfl 60 (.tmp 4) rfl (w.heap.size + 1) rfl _ _ _ _ (HK.out _ H2.out) huHK rfl HSHK.out ?_)
      | fail)
     have HPU := Lib.hid (fun W hW => HUP.out ⟨kb, ki, kl, ks, wrap64 (y.qty + n), y.held⟩ W hW)
     rw [← HLE0.out] at HPU
     refine (HPU.out _ (HBW.out _ H4.out).1).mono ?_
     rintro e w4 ⟨hb9, A, n, cc, hl, hown, rfl⟩
     have H9 := Lib.hid (H4.out.trans (hb9.mono H4.out.size))
     have HO9 := Lib.hid hown
     have HLE := Lib.hid hl
     have HSZ9 := Lib.hid (HBW.out _ H4.out).2
     clear hb9 hown hl
     go_wp2_with (first
      | (refine wpList_store_row rfl 37 (.tmp 6) (.tmp 47) rfl (w.heap.size + 2) (h.set 4 A n cc).cells rfl rfl _ _ (HZ.out _ H9.out) (HSH.out _) rfl (H1C.out _) ?_)
      | fail)
     exact bodyPost_ret (results_row_tmp rfl _ _ (w.heap.size + 2) _ _ _ _ rfl (setRow_heap _ _ _ _ _ _ (HZ.out _ H9.out)) huh rfl (HSH.out _)) rfl ⟨setRow_below (HBW.out _ H9.out).1 (by omega) _, .inr ⟨HE.out, A, n, cc, HLE.out, own_rowed HO9.out (by have := HSZ9.out; omega) (by have := HSZ9.out; omega), rfl⟩⟩

/-- How many there are of an item and lot. -/
def totQK (L : List (List Value)) (s t : ByteArray) : Int := L.foldl (fun n q => if (Pl.eqv (qnOf q).item s && Pl.eqv (qnOf q).lot t) = true then wrap64 (n + (qnOf q).qty) else n) 0
theorem totQK_snoc (L : List (List Value)) (s t : ByteArray) (k : Nat) (hk : k < L.length) : totQK (L.take (k + 1)) s t =
 if (Pl.eqv (qnOf L[k]).item s && Pl.eqv (qnOf L[k]).lot t) = true then wrap64 (totQK (L.take k) s t + (qnOf L[k]).qty) else totQK (L.take k) s t := by
 unfold totQK
 rw [List.take_add_one, List.getElem?_eq_getElem hk, Option.toList_some, List.foldl_append]
 rfl
set_option maxRecDepth 100000 in
set_option maxHeartbeats 3200000 in
theorem ctotal (h : Hs) (L : Nat → List (List Value)) (s t : ByteArray) (w : World) (hh : HT h L w) :
 Calls Tryz.prog 25 #[.agg h.cells, .string s, .string t] w fun e w' => e = .returned (.int .i64 (totQK (L 4) s t)) ∧ Below w.heap.size w w' := by
 have HHT := Lib.hid hh
 have hn9 := (hh 4 (by decide)).2.1
 obtain ⟨m, hmm⟩ : ∃ m, h.n 4 = m := ⟨_, rfl⟩
 have HNM : Hid (m = (L 4).length) := Lib.hid (by rw [← hmm]; exact (hh 4 (by decide)).1)
 rw [hmm] at hn9
 have HMM := Lib.hid hmm
 obtain ⟨r, hr⟩ : ∃ r, totQK (L 4) s t = r := ⟨_, rfl⟩
 rw [hr]
 have HR := Lib.hid hr
 clear hr hmm
 obtain ⟨W0, hW0⟩ : ∃ W0, W0 = (w.alloc (.cells h.cells 37)) := ⟨_, rfl⟩
 have hb0 : Below w.heap.size w W0 := by rw [hW0]; exact (Below.refl _ _).alloc (Nat.le_refl _) _
 have hs0 : W0.heap.size = w.heap.size + 1 := by rw [hW0]; simp
 have HH : Hid (∀ W, Below W0.heap.size W0 W → W.heap[w.heap.size]? = some (.cells h.cells 37 (0, 0))) := Lib.hid (fun W hW => (hW.block _ (by omega)).trans (by
  rw [hW0]
  have hq := heap_alloc_new w (.cells h.cells 37)
  exact (by simpa using hq)))
 have HBW : Hid (∀ W, Below W0.heap.size W0 W → Below w.heap.size w W ∧ w.heap.size + 1 ≤ W.heap.size) := Lib.hid (fun W hW => ⟨hb0.trans (hW.mono (by omega)), by have := hW.size; omega⟩)
 have huh := Tryz.underlying37
 have HSH : Hid (∀ a : Hs, (Tryz.prog.info? 37).map (·.size) = some a.cells.size) := Lib.hid (fun a => by kernel_rfl)
 have HL4 : Hid (∀ W, Below W0.heap.size W0 W → W.cell? ⟨w.heap.size, 4, none⟩ = some (.slice (h.A 4) m (h.c 4)) ∧ w.heap.size < W.heap.size) := Lib.hid (fun W hW => ⟨by rw [cell_of_block (HH.out W hW), ← HMM.out]; rfl, by have := hW.size; omega⟩)
 have HSQ6 : Hid ((Tryz.prog.info? 71).map (·.size) = some 6) := Lib.hid (by kernel_rfl)
 have huq := Tryz.underlying71
 have H0 := Lib.hid (Below.refl W0.heap.size W0)
 clear hb0 hs0 hh
 subst hW0
 go_enter Tryz.func25, Tryz.ntmps25
 obtain ⟨d4, dlt⟩ := HL4.out _ H0.out
 go_wp2_with fail
 clear d4 dlt
 go_loopw [7, 13] (fun v i wr => ∃ (k : Nat) (va : Int), k ≤ m ∧ v = .int .i64 va ∧ i = .int .i64 (k : Int) ∧ Hid (totQK ((L 4).take k) s t = va) ∧ Hid (Below (w.alloc (.cells h.cells 37)).heap.size (w.alloc (.cells h.cells 37)) wr)) (fun _ i _ => m - (intOf i).toNat)
 case atStart => exact ⟨0, 0, by omega, rfl, rfl, Lib.hid rfl, H0⟩
 case round =>
  obtain ⟨k, va, hk, rfl, rfl, hv, hw⟩ := hrel
  by_cases hlt : k < m
  · have hkl : k < (L 4).length := by rw [← HNM.out]; exact hlt
    have HTR : HT h L wr := HHT.out.below (HBW.out _ hw.out).1
    obtain ⟨b, off, hA, hb, r1⟩ := cquant_at HTR hkl
    have hsn := totQK_snoc (L 4) s t k hkl
    rw [hv.out] at hsn
    obtain ⟨q, hq⟩ : ∃ q, qnOf (L 4)[k] = q := ⟨_, rfl⟩
    rw [hq] at r1 hsn
    obtain ⟨qb, qi, ql, qs, qq, qh⟩ := q
    simp only [] at hsn
    have HRE : Hid (wr.rangeAt b (off + k * 6) [.string qb, .string qi, .string ql, .int .i64 qs, .int .i64 qq, .int .i64 qh]) := Lib.hid r1
    have HSN := Lib.hid hsn
    have HB1 := Lib.hid (hw.out.alloc hw.out.size (.cells #[.string qb, .string qi, .string ql, .int .i64 qs, .int .i64 qq, .int .i64 qh] 71))
    have h1 : (0 : Int) ≤ (k : Int) := by omega
    have h2 : (k : Int) < (m : Int) := by omega
    rw [hA]
    clear r1 hq hsn hkl HTR hA hb
    cases e1 : Pl.eqv qi s with
    | false =>
     have f1 : (qi.toList == s.toList) = false := e1
     have HV : Hid (totQK ((L 4).take (k + 1)) s t = va) := Lib.hid (by rw [HSN.out, e1]; rfl)
     clear e1
     go_wp2_with (first
      | (refine wpList_load_mid rfl 71 (.tmp 15) rfl b (off + k * 6) rfl [.string qb, .string qi, .string ql, .int .i64 qs, .int .i64 qq, .int .i64 qh] _ HRE.out huq rfl HSQ6.out ?_)
      | fail)
     go_roundw
     case rel => exact ⟨k + 1, va, by omega, rfl, by go_num, HV, HB1⟩
     case measure => simp [intOf]; omega
    | true =>
     have f1 : (qi.toList == s.toList) = true := e1
     cases e2 : Pl.eqv ql t with
     | false =>
      have f2 : (ql.toList == t.toList) = false := e2
      have HV : Hid (totQK ((L 4).take (k + 1)) s t = va) := Lib.hid (by rw [HSN.out, e1, e2]; rfl)
      clear e1 e2
      go_wp2_with (first
       | (refine wpList_load_mid rfl 71 (.tmp 15) rfl b (off + k * 6) rfl [.string qb, .string qi, .string ql, .int .i64 qs, .int .i64 qq, .int .i64 qh] _ HRE.out huq rfl HSQ6.out ?_)
       | fail)
      go_roundw
      case rel => exact ⟨k + 1, va, by omega, rfl, by go_num, HV, HB1⟩
      case measure => simp [intOf]; omega
     | true =>
      have f2 : (ql.toList == t.toList) = true := e2
      have HV : Hid (totQK ((L 4).take (k + 1)) s t = (wrap64 (va + qq))) := Lib.hid (by rw [HSN.out, e1, e2]; rfl)
      clear e1 e2
      go_wp2_with (first
       | (refine wpList_load_mid rfl 71 (.tmp 15) rfl b (off + k * 6) rfl [.string qb, .string qi, .string ql, .int .i64 qs, .int .i64 qq, .int .i64 qh] _ HRE.out huq rfl HSQ6.out ?_)
       | fail)
      go_roundw
      case rel => exact ⟨k + 1, (wrap64 (va + qq)), by omega, rfl, by go_num, HV, HB1⟩
      case measure => simp [intOf]; omega
  · have hkm : k = m := by omega
    have HV : Hid (va = r) := Lib.hid (by rw [← hv.out, ← HR.out, List.take_of_length_le (by rw [← HNM.out]; omega)])
    go_wp2_with fail
    go_ret
    exact ⟨by rw [← HV.out]; rfl, (HBW.out _ hw.out).1⟩

end Go.Proofs.YtgbilfkjfeheaaaGreat

namespace Go.Proofs.YtgbilfkjfeheaaaGreat
set_option linter.unusedVariables false
open Go.RowKit
open Pl (firstG findG putG dropG It)

end Go.Proofs.YtgbilfkjfeheaaaGreat
