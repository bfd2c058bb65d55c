/-
 CONTRACT of the reference's Hold. (By wip/tools/gen_aref.py.)
-/
import Derived.Test.YtlkmccmbpnbgbaaGreatQRef
import Derived.Test.YtlkmccmbpnbgbaaGreatHKept
import Derived.Deep.CutRange
import Derived.BigQuiet
namespace Go.Proofs.YtlkmccmbpnbgbaaGreat
set_option linter.unusedVariables false
open Go.RowKit
open Pl (firstG firstG_none firstG_some findG overG putG dropG It)

set_option maxRecDepth 100000 in
set_option maxHeartbeats 3200000 in
theorem rhold (h : Hs) (L : Nat → List (List Value)) (kb ki kl : ByteArray) (ks : Int) (n : Int) (w : World) (hh : HT h L w) (hn4 : h.n 4 ≤ 9000) :
 Calls Tryz.prog 70 #[.agg h.cells, .agg #[.string kb, .string ki, .string kl, .int .i64 ks], .int .i64 n] w (PutP 62 6 4 (holdE (L 4) (Ky.mk kb ki kl ks) n) (holdL (L 4) (Ky.mk kb ki kl ks) n) h w) := by
 obtain ⟨y, hy, hyb⟩ := quant_six hh (Ky.mk kb ki kl ks)
 obtain ⟨iq, hiq⟩ : ∃ z, (atQ (L 4) (Ky.mk kb ki kl ks)).isSome = z := ⟨_, rfl⟩
 obtain ⟨er, her⟩ : ∃ r, holdE (L 4) (Ky.mk kb ki kl ks) n = r := ⟨_, rfl⟩
 have HKY : Hid (iq = true → y.bin = kb ∧ y.item = ki ∧ y.lot = kl ∧ y.st = ks) := Lib.hid (fun h1 => by
  have := gotQ_ky (L := L 4) (k := (Ky.mk kb ki kl ks)) (by rw [hiq]; exact h1)
  rw [hyb] at this
  injection this with a1 a2 a3 a4
  exact ⟨a1, a2, a3, a4⟩)
 have CQ : Hid (∀ W, Below w.heap.size w W → Calls Tryz.prog 105 #[.agg h.cells, .agg #[.string kb, .string ki, .string kl, .int .i64 ks]] W fun e w' => e = .returned (.tuple #[.agg #[.string y.bin, .string y.item, .string y.lot, .int .i64 y.st, .int .i64 y.qty, .int .i64 y.held], .bool iq]) ∧ Below W.heap.size W w') := Lib.hid (fun W hW => by have := frq (hh.below hW) kb ki kl ks; rw [hy, hiq] at this; exact this)
 have HUP : Hid (∀ (x : Qn) W, Below w.heap.size w W → Calls Tryz.prog 106 #[.agg h.cells, .agg #[.string x.bin, .string x.item, .string x.lot, .int .i64 x.st, .int .i64 x.qty, .int .i64 x.held]] W fun e w' => Below W.heap.size W w' ∧ ∃ A n c, n = (upQ (L 4) x).length ∧ w'.ownsRow W.heap.size 62 6 (.slice A n c) n (upQ (L 4) x).flatten ∧ e = .returned (.agg (h.set 4 A n c).cells)) := Lib.hid (fun x W hW => rupq h (L 4) _ _ _ _ _ _ W (hh 4 (by decide)).1 (by omega) (hh 4 (by decide)).2.2.1 ((hh.below hW) 4 (by decide)).2.2.2)
 have HA : Hid (er = if iq = false then 12 else if n < -1000000000 ∨ 1000000000 < n then 10 else if wrap64 (y.qty - y.held) < n ∨ wrap64 (y.held + n) < 0 then 28 else 0) := Lib.hid (by rw [← her]; unfold holdE; rw [hiq, hyb])
 have HLX : Hid (iq = true → holdL (L 4) (Ky.mk kb ki kl ks) n = upQ (L 4) ⟨y.bin, y.item, y.lot, y.st, y.qty, wrap64 (y.held + n)⟩) := Lib.hid (fun h1 => by obtain ⟨a1, a2, a3, a4⟩ := HKY.out h1; unfold holdL; rw [hyb, a1, a2, a3, a4])
 obtain ⟨lx, hlx⟩ : ∃ l, holdL (L 4) (Ky.mk kb ki kl ks) n = l := ⟨_, rfl⟩
 rw [hlx] at HLX ⊢
 rw [her]
 clear her hiq hy hyb hlx HKY
 obtain ⟨W0, hW0⟩ : ∃ W0, W0 = (((w.alloc (.cells h.cells 37)).alloc (.cells #[.string kb, .string ki, .string kl, .int .i64 ks] 44)).alloc (.cells #[.slice none 0 0, .slice none 0 0, .slice none 0 0, .slice none 0 0, .slice none 0 0, .slice none 0 0, .slice none 0 0, .slice none 0 0, .slice none 0 0, .slice none 0 0, .slice none 0 0, .slice none 0 0, .slice none 0 0, .slice none 0 0, .int .i64 0] 37)) := ⟨_, rfl⟩
 have hb0 : Below w.heap.size w W0 := by rw [hW0]; exact (((Below.refl _ _).alloc (Nat.le_refl _) _).alloc (by simp <;> omega) _).alloc (by simp <;> omega) _
 have hs0 : W0.heap.size = w.heap.size + 3 := by rw [hW0]; simp
 have HH : Hid (∀ W, Below W0.heap.size W0 W → W.heap[w.heap.size]? = some (.cells h.cells 37 (0, 0))) := Lib.hid (fun W hW => (hW.block _ (by omega)).trans (by
  rw [hW0]
  have hq := heap_alloc_new w (.cells h.cells 37)
  exact (Below.heap_alloc _ _ _ (by simp <;> omega)).trans ((Below.heap_alloc _ _ _ (by simp <;> omega)).trans ((by simpa using hq)))))
 have HK : Hid (∀ W, Below W0.heap.size W0 W → W.heap[w.heap.size + 1]? = some (.cells #[.string kb, .string ki, .string kl, .int .i64 ks] 44 (0, 0))) := Lib.hid (fun W hW => (hW.block _ (by omega)).trans (by
  rw [hW0]
  have hq := heap_alloc_new (w.alloc (.cells h.cells 37)) (.cells #[.string kb, .string ki, .string kl, .int .i64 ks] 44)
  exact (Below.heap_alloc _ _ _ (by simp <;> omega)).trans ((by simpa using hq))))
 have HZ : Hid (∀ W, Below W0.heap.size W0 W → W.heap[w.heap.size + 2]? = some (.cells Hs.zero 37 (0, 0))) := Lib.hid (fun W hW => (hW.block _ (by omega)).trans (by
  rw [hW0]
  have hq := heap_alloc_new ((w.alloc (.cells h.cells 37)).alloc (.cells #[.string kb, .string ki, .string kl, .int .i64 ks] 44)) (.cells #[.slice none 0 0, .slice none 0 0, .slice none 0 0, .slice none 0 0, .slice none 0 0, .slice none 0 0, .slice none 0 0, .slice none 0 0, .slice none 0 0, .slice none 0 0, .slice none 0 0, .slice none 0 0, .slice none 0 0, .slice none 0 0, .int .i64 0] 37)
  exact (by simpa [Hs.zero] using hq)))
 have HBW : Hid (∀ W, Below W0.heap.size W0 W → Below w.heap.size w W ∧ w.heap.size + 3 ≤ W.heap.size) := Lib.hid (fun W hW => ⟨hb0.trans (hW.mono (by omega)), by have := hW.size; omega⟩)
 have huh := Tryz.underlying37
 have HSH : Hid (∀ a : Hs, (Tryz.prog.info? 37).map (·.size) = some a.cells.size) := Lib.hid (fun a => by kernel_rfl)
 have HSQ : Hid ((Tryz.prog.info? 37).map (·.size) = some Hs.zero.size) := Lib.hid (by kernel_rfl)
 have H1C : Hid (∀ a : Hs, a.cells.all (·.oneCell') = true) := Lib.hid (fun a => by simp [Hs.cells, Value.oneCell'])
 have H1Q : Hid (Hs.zero.all (·.oneCell') = true) := Lib.hid (by simp [Hs.zero, Value.oneCell'])
 have huHK := Tryz.underlying44
 have HSHK : Hid ((Tryz.prog.info? 44).map (·.size) = some 4) := Lib.hid (by kernel_rfl)
 have HCHK : Hid (∀ W, Below W0.heap.size W0 W → W.cell? ⟨w.heap.size + 1, 0, none⟩ = some (.string kb) ∧ W.cell? ⟨w.heap.size + 1, 1, none⟩ = some (.string ki) ∧ W.cell? ⟨w.heap.size + 1, 2, none⟩ = some (.string kl) ∧ W.cell? ⟨w.heap.size + 1, 3, none⟩ = some (.int .i64 ks) ∧ w.heap.size + 1 < W.heap.size) := Lib.hid (fun W hW => ⟨by rw [cell_of_block (HK.out W hW)]; rfl, by rw [cell_of_block (HK.out W hW)]; rfl, by rw [cell_of_block (HK.out W hW)]; rfl, by rw [cell_of_block (HK.out W hW)]; rfl, by have := hW.size; omega⟩)
 have H0 := Lib.hid (Below.refl W0.heap.size W0)
 clear hb0 hs0 hh hn4
 subst hW0
 go_enter Tryz.func70, Tryz.ntmps70
 go_wp2_with (first
  | (refine wpList_load_row rfl 37 (.tmp 3) rfl w.heap.size rfl _ _ _ _ (HH.out _ H0.out) huh rfl (HSH.out _) ?_)
  | (refine wpList_load_row rfl 44 (.tmp 4) rfl (w.heap.size + 1) rfl _ _ _ _ (HK.out _ H0.out) huHK rfl HSHK.out ?_)
  | fail)
 refine (CQ.out _ (HBW.out _ H0.out).1).mono ?_
 rintro e w1 ⟨rfl, hb1⟩
 have H1 := Lib.hid (H0.out.trans (hb1.mono H0.out.size))
 clear hb1
 have H2 := Lib.hid (H1.out.alloc H1.out.size (.cells #[.string y.bin, .string y.item, .string y.lot, .int .i64 y.st, .int .i64 y.qty, .int .i64 y.held] 62))
 cases iq with
 | false =>
  have HE : Hid (er = 12) := Lib.hid (by rw [HA.out]; rfl)
  go_wp2_with (first
   | (refine wpList_store_row rfl 37 (.tmp 6) (.tmp 18) rfl (w.heap.size + 2) Hs.zero rfl rfl _ _ (HZ.out _ H2.out) HSQ.out rfl H1Q.out ?_)
   | fail)
  exact bodyPost_ret (results_row_tmp rfl _ _ (w.heap.size + 2) _ _ _ _ rfl (setRow_heap _ _ _ _ _ _ (HZ.out _ H2.out)) huh rfl HSQ.out) rfl ⟨setRow_below (HBW.out _ H2.out).1 (by omega) _, .inl ⟨by rw [HE.out]; decide, by rw [HE.out]; rfl⟩⟩
 | true =>
  have HA1 : Hid (er = if n < -1000000000 ∨ 1000000000 < n then 10 else if wrap64 (y.qty - y.held) < n ∨ wrap64 (y.held + n) < 0 then 28 else 0) := Lib.hid (by rw [HA.out]; rfl)
  have HLE0 := Lib.hid (HLX.out rfl)
  by_cases q1 : n < -1000000000
  ·
   have HE : Hid (er = 10) := Lib.hid (by rw [HA1.out, if_pos (.inl q1)])
   go_wp2_with (first
    | (refine wpList_store_row rfl 37 (.tmp 6) (.tmp 25) rfl (w.heap.size + 2) Hs.zero rfl rfl _ _ (HZ.out _ H2.out) HSQ.out rfl H1Q.out ?_)
    | fail)
   exact bodyPost_ret (results_row_tmp rfl _ _ (w.heap.size + 2) _ _ _ _ rfl (setRow_heap _ _ _ _ _ _ (HZ.out _ H2.out)) huh rfl HSQ.out) rfl ⟨setRow_below (HBW.out _ H2.out).1 (by omega) _, .inl ⟨by rw [HE.out]; decide, by rw [HE.out]; rfl⟩⟩
  · by_cases q2 : 1000000000 < n
    ·
     have HE : Hid (er = 10) := Lib.hid (by rw [HA1.out, if_pos (.inr q2)])
     go_wp2_with (first
      | (refine wpList_store_row rfl 37 (.tmp 6) (.tmp 25) rfl (w.heap.size + 2) Hs.zero rfl rfl _ _ (HZ.out _ H2.out) HSQ.out rfl H1Q.out ?_)
      | fail)
     exact bodyPost_ret (results_row_tmp rfl _ _ (w.heap.size + 2) _ _ _ _ rfl (setRow_heap _ _ _ _ _ _ (HZ.out _ H2.out)) huh rfl HSQ.out) rfl ⟨setRow_below (HBW.out _ H2.out).1 (by omega) _, .inl ⟨by rw [HE.out]; decide, by rw [HE.out]; rfl⟩⟩
    · have HA2 : Hid (er = if wrap64 (y.qty - y.held) < n ∨ wrap64 (y.held + n) < 0 then 28 else 0) := Lib.hid (by rw [HA1.out, if_neg (fun h => h.elim q1 q2)])
      by_cases q3 : wrap64 (y.qty - y.held) < n
      ·
       have HE : Hid (er = 28) := Lib.hid (by rw [HA2.out, if_pos (.inl q3)])
       go_wp2_with (first
        | (refine wpList_store_row rfl 37 (.tmp 6) (.tmp 40) rfl (w.heap.size + 2) Hs.zero rfl rfl _ _ (HZ.out _ H2.out) HSQ.out rfl H1Q.out ?_)
        | fail)
       exact bodyPost_ret (results_row_tmp rfl _ _ (w.heap.size + 2) _ _ _ _ rfl (setRow_heap _ _ _ _ _ _ (HZ.out _ H2.out)) huh rfl HSQ.out) rfl ⟨setRow_below (HBW.out _ H2.out).1 (by omega) _, .inl ⟨by rw [HE.out]; decide, by rw [HE.out]; rfl⟩⟩
      · by_cases q4 : wrap64 (y.held + n) < 0
        ·
         have HE : Hid (er = 28) := Lib.hid (by rw [HA2.out, if_pos (.inr q4)])
         go_wp2_with (first
          | (refine wpList_store_row rfl 37 (.tmp 6) (.tmp 40) rfl (w.heap.size + 2) Hs.zero rfl rfl _ _ (HZ.out _ H2.out) HSQ.out rfl H1Q.out ?_)
          | fail)
         exact bodyPost_ret (results_row_tmp rfl _ _ (w.heap.size + 2) _ _ _ _ rfl (setRow_heap _ _ _ _ _ _ (HZ.out _ H2.out)) huh rfl HSQ.out) rfl ⟨setRow_below (HBW.out _ H2.out).1 (by omega) _, .inl ⟨by rw [HE.out]; decide, by rw [HE.out]; rfl⟩⟩
        · have HE : Hid (er = 0) := Lib.hid (by rw [HA2.out, if_neg (fun h => h.elim q3 q4)])
          have H3 := Lib.hid (H1.out.alloc H1.out.size (.cells #[.string y.bin, .string y.item, .string y.lot, .int .i64 y.st, .int .i64 y.qty, .int .i64 (wrap64 (y.held + n))] 62))
          go_wp2_with (first
           | (refine wpList_load_row rfl 37 (.tmp 3) rfl w.heap.size rfl _ _ _ _ (HH.out _ H3.out) huh rfl (HSH.out _) ?_)
           | fail)
          have HPU := Lib.hid (fun W hW => HUP.out ⟨y.bin, y.item, y.lot, y.st, y.qty, wrap64 (y.held + n)⟩ W hW)
          rw [← HLE0.out] at HPU
          refine (HPU.out _ (HBW.out _ H3.out).1).mono ?_
          rintro e w3 ⟨hb9, A, n, cc, hl, hown, rfl⟩
          have H9 := Lib.hid (H3.out.trans (hb9.mono H3.out.size))
          have HO9 := Lib.hid hown
          have HLE := Lib.hid hl
          have HSZ9 := Lib.hid (HBW.out _ H3.out).2
          clear hb9 hown hl
          go_wp2_with (first
           | (refine wpList_store_row rfl 37 (.tmp 6) (.tmp 48) rfl (w.heap.size + 2) (h.set 4 A n cc).cells rfl rfl _ _ (HZ.out _ H9.out) (HSH.out _) rfl (H1C.out _) ?_)
           | fail)
          exact bodyPost_ret (results_row_tmp rfl _ _ (w.heap.size + 2) _ _ _ _ rfl (setRow_heap _ _ _ _ _ _ (HZ.out _ H9.out)) huh rfl (HSH.out _)) rfl ⟨setRow_below (HBW.out _ H9.out).1 (by omega) _, .inr ⟨HE.out, A, n, cc, HLE.out, own_rowed HO9.out (by have := HSZ9.out; omega) (by have := HSZ9.out; omega), rfl⟩⟩
end Go.Proofs.YtlkmccmbpnbgbaaGreat
