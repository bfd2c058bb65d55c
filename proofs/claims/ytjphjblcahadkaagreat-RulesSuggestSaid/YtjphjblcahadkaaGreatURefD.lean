/-
  CONTRACT of the reference's Add of a rule. (By wip/tools/gen_uref.py.)
-/
import Derived.Test.YtjphjblcahadkaaGreatURefA
import Derived.Test.YtjphjblcahadkaaGreatURAdd
import Derived.BigQuiet
namespace Go.Proofs.YtjphjblcahadkaaGreat
set_option linter.unusedVariables false
open Go.RowKit
open Pl (firstG findG putG It)

set_option maxRecDepth 100000 in
set_option maxHeartbeats 6400000 in
theorem radd_any (h : Hs) (L : Nat → List (List Value)) (a b : ByteArray) (k : Int) (w : World) (hh : HT h L w) (hn5 : h.n 5 ≤ 1000) :
    Calls Tryz.prog 9 #[.agg h.cells, .agg #[.string a, .string b, .int .i64 k]] w (PutP 39 3 5 (addRE (L 0) (L 2) (L 5) (Rl.mk a b k)) (putG ordRule (L 5) (Rl.mk a b k).cells) h w) := by
  have HHT := Lib.hid hh
  obtain ⟨x, hx, hxo⟩ := item_it hh a
  obtain ⟨ga, gb, hg, _⟩ := zone_two hh b
  obtain ⟨ii, hii⟩ : ∃ z, (atItem (L 0) a).isSome = z := ⟨_, rfl⟩
  obtain ⟨iz, hiz⟩ : ∃ z, (atZone (L 2) b).isSome = z := ⟨_, rfl⟩
  obtain ⟨ea, hea⟩ : ∃ z, a.toList.isEmpty = z := ⟨_, rfl⟩
  obtain ⟨hr, hhr⟩ : ∃ z, hasRule (L 5) (Rl.mk a b k) = z := ⟨_, rfl⟩
  obtain ⟨er, her⟩ : ∃ z, addRE (L 0) (L 2) (L 5) (Rl.mk a b k) = z := ⟨_, rfl⟩
  have HA : Hid (er = if ((!ea && !ii) || !iz) = true then 12 else if (decide (k < 0) || decide (999 < k)) = true then 5 else if (!hr && decide (32 ≤ h.n 5)) = true then 14 else 0) := Lib.hid (by rw [← her, ← hea, ← hii, ← hiz, ← hhr, (hh 5 (by decide)).1]; rfl)
  have CI : Hid (∀ W, Below w.heap.size w W → Calls Tryz.prog 32 #[.agg h.cells, .string a] W fun e w' => e = .returned (.tuple #[.agg #[.string x.code, .string (x.nm 0), .int .i64 (x.fc 0), .string (x.nm 1), .int .i64 (x.fc 1), .string (x.nm 2), .int .i64 (x.fc 2), .string (x.nm 3), .int .i64 (x.fc 3), .int .i64 x.vol, .int .i64 x.wei, .bool x.lots, .bool x.serial, .bool x.chk], .bool ii]) ∧ Below W.heap.size W w') := Lib.hid (fun W hW => by have := frItem (hh.below hW) a; rw [hx, hii] at this; exact this)
  have CZ : Hid (∀ W, Below w.heap.size w W → Calls Tryz.prog 33 #[.agg h.cells, .string b] W fun e w' => e = .returned (.tuple #[.agg #[.string ga, .string gb], .bool iz]) ∧ Below W.heap.size W w') := Lib.hid (fun W hW => by have := frZone (hh.below hW) b; rw [hg, hiz] at this; exact this)
  have HPU := Lib.hid (fun W (hW : Below w.heap.size w W) => rRule_any h (Rl.mk a b k).cells (L 5) W (Rl.fits _) (hh 5 (by decide)).1 hn5 (hh 5 (by decide)).2.2.1 ((hh.below hW) 5 (by decide)).2.2.2)
  rw [show (Rl.mk a b k).cells.toArray = #[.string a, .string b, .int .i64 k] from rfl] at HPU
  obtain ⟨lx, hlx⟩ : ∃ l, putG ordRule (L 5) (Rl.mk a b k).cells = l := ⟨_, rfl⟩
  rw [hlx] at HPU
  rw [her, hlx]
  obtain ⟨m, hmm⟩ : ∃ m, h.n 5 = m := ⟨_, rfl⟩
  have HNM : Hid (m = (L 5).length) := Lib.hid (by rw [← hmm]; exact (hh 5 (by decide)).1)
  rw [hmm] at HA hn5
  have HMM := Lib.hid hmm
  have HHR := Lib.hid hhr
  clear her hii hiz hhr hx hxo hg hlx hmm
  obtain ⟨W0, hW0⟩ : ∃ W0, W0 = (((w.alloc (.cells h.cells 37)).alloc (.cells #[.string a, .string b, .int .i64 k] 39)).alloc (.cells #[.slice none 0 0, .slice none 0 0, .slice none 0 0, .slice none 0 0, .slice none 0 0, .slice none 0 0, .slice none 0 0, .slice none 0 0, .slice none 0 0, .slice none 0 0, .slice none 0 0, .slice none 0 0, .slice none 0 0, .slice none 0 0, .int .i64 0] 37)) := ⟨_, rfl⟩
  have hb0 : Below w.heap.size w W0 := by rw [hW0]; exact (((Below.refl _ _).alloc (Nat.le_refl _) _).alloc (by simp <;> omega) _).alloc (by simp <;> omega) _
  have hs0 : W0.heap.size = w.heap.size + 3 := by rw [hW0]; simp
  have HH : Hid (∀ W, Below W0.heap.size W0 W → W.heap[w.heap.size]? = some (.cells h.cells 37 (0, 0))) := Lib.hid (fun W hW => (hW.block _ (by omega)).trans (by
    rw [hW0]
    have hq := heap_alloc_new w (.cells h.cells 37)
    exact (Below.heap_alloc _ _ _ (by simp <;> omega)).trans ((Below.heap_alloc _ _ _ (by simp <;> omega)).trans ((by simpa using hq)))))
  have HX : Hid (∀ W, Below W0.heap.size W0 W → W.heap[w.heap.size + 1]? = some (.cells #[.string a, .string b, .int .i64 k] 39 (0, 0))) := Lib.hid (fun W hW => (hW.block _ (by omega)).trans (by
    rw [hW0]
    have hq := heap_alloc_new (w.alloc (.cells h.cells 37)) (.cells #[.string a, .string b, .int .i64 k] 39)
    exact (Below.heap_alloc _ _ _ (by simp <;> omega)).trans ((by simpa using hq))))
  have HZ : Hid (∀ W, Below W0.heap.size W0 W → W.heap[w.heap.size + 2]? = some (.cells Hs.zero 37 (0, 0))) := Lib.hid (fun W hW => (hW.block _ (by omega)).trans (by
    rw [hW0]
    have hq := heap_alloc_new ((w.alloc (.cells h.cells 37)).alloc (.cells #[.string a, .string b, .int .i64 k] 39)) (.cells #[.slice none 0 0, .slice none 0 0, .slice none 0 0, .slice none 0 0, .slice none 0 0, .slice none 0 0, .slice none 0 0, .slice none 0 0, .slice none 0 0, .slice none 0 0, .slice none 0 0, .slice none 0 0, .slice none 0 0, .slice none 0 0, .int .i64 0] 37)
    exact (by simpa [Hs.zero] using hq)))
  have HBW : Hid (∀ W, Below W0.heap.size W0 W → Below w.heap.size w W ∧ w.heap.size + 3 ≤ W.heap.size) := Lib.hid (fun W hW => ⟨hb0.trans (hW.mono (by omega)), by have := hW.size; omega⟩)
  have huh := Tryz.underlying37
  have HSH : Hid (∀ a : Hs, (Tryz.prog.info? 37).map (·.size) = some a.cells.size) := Lib.hid (fun a => by kernel_rfl)
  have HSQ : Hid ((Tryz.prog.info? 37).map (·.size) = some Hs.zero.size) := Lib.hid (by kernel_rfl)
  have H1C : Hid (∀ a : Hs, a.cells.all (·.oneCell') = true) := Lib.hid (fun a => by simp [Hs.cells, Value.oneCell'])
  have H1Q : Hid (Hs.zero.all (·.oneCell') = true) := Lib.hid (by simp [Hs.zero, Value.oneCell'])
  have huHX := Tryz.underlying39
  have HSHX : Hid ((Tryz.prog.info? 39).map (·.size) = some 3) := Lib.hid (by kernel_rfl)
  have HCHX : Hid (∀ W, Below W0.heap.size W0 W → W.cell? ⟨w.heap.size + 1, 0, none⟩ = some (.string a) ∧ W.cell? ⟨w.heap.size + 1, 1, none⟩ = some (.string b) ∧ W.cell? ⟨w.heap.size + 1, 2, none⟩ = some (.int .i64 k) ∧ w.heap.size + 1 < W.heap.size) := Lib.hid (fun W hW => ⟨by rw [cell_of_block (HX.out W hW)]; rfl, by rw [cell_of_block (HX.out W hW)]; rfl, by rw [cell_of_block (HX.out W hW)]; rfl, by have := hW.size; omega⟩)
  have HL5 : Hid (∀ W, Below W0.heap.size W0 W → W.cell? ⟨w.heap.size, 5, none⟩ = some (.slice (h.A 5) m (h.c 5)) ∧ w.heap.size < W.heap.size) := Lib.hid (fun W hW => ⟨by rw [cell_of_block (HH.out W hW), ← HMM.out]; rfl, by have := hW.size; omega⟩)
  have hc0 := HCHX.out _ (Below.refl _ _)
  obtain ⟨hx0, hx1, hx2, hlthx⟩ := hc0
  have H0 := Lib.hid (Below.refl W0.heap.size W0)
  clear hb0 hs0 hh
  subst hW0
  go_enter Tryz.func9, Tryz.ntmps9
  go_wp2_with (first
    | (refine wpList_load_row rfl 37 (.tmp 2) rfl w.heap.size rfl _ _ _ _ (HH.out _ H0.out) huh rfl (HSH.out _) ?_)
    | fail)
  refine (CI.out _ (HBW.out _ H0.out).1).mono ?_
  rintro e w1 ⟨rfl, hb1⟩
  have H1 := Lib.hid (H0.out.trans (hb1.mono H0.out.size))
  clear hb1
  have H2 := Lib.hid (H1.out.alloc H1.out.size (.cells #[.string x.code, .string (x.nm 0), .int .i64 (x.fc 0), .string (x.nm 1), .int .i64 (x.fc 1), .string (x.nm 2), .int .i64 (x.fc 2), .string (x.nm 3), .int .i64 (x.fc 3), .int .i64 x.vol, .int .i64 x.wei, .bool x.lots, .bool x.serial, .bool x.chk] 59))
  clear hx0 hx1 hx2 hlthx
  obtain ⟨hx0, hx1, hx2, hlthx⟩ := HCHX.out _ H2.out
  go_wp2_with (first
    | (refine wpList_load_row rfl 37 (.tmp 2) rfl w.heap.size rfl _ _ _ _ (HH.out _ H2.out) huh rfl (HSH.out _) ?_)
    | fail)
  refine (CZ.out _ (HBW.out _ H2.out).1).mono ?_
  rintro e w2 ⟨rfl, hb2⟩
  have H3 := Lib.hid (H2.out.trans (hb2.mono H2.out.size))
  clear hb2
  have H4 := Lib.hid (H3.out.alloc H3.out.size (.cells #[.string ga, .string gb] 65))
  clear hx0 hx1 hx2 hlthx
  obtain ⟨hx0, hx1, hx2, hlthx⟩ := HCHX.out _ H4.out
  cases ea with
  | true =>
    cases iz with
    | false =>
      have HE : Hid (er = 12) := Lib.hid (by rw [HA.out]; simp)
      go_wp2_with (first
        | (refine wpList_store_row rfl 37 (.tmp 4) (.tmp 37) rfl (w.heap.size + 2) Hs.zero rfl rfl _ _ (HZ.out _ H4.out) HSQ.out rfl H1Q.out ?_)
        | fail)
      exact bodyPost_ret (results_row_tmp rfl _ _ (w.heap.size + 2) _ _ _ _ rfl (setRow_heap _ _ _ _ _ _ (HZ.out _ H4.out)) huh rfl HSQ.out) rfl ⟨setRow_below (HBW.out _ H4.out).1 (by omega) _, .inl ⟨by rw [HE.out]; decide, by rw [HE.out]; rfl⟩⟩
    | true =>
      by_cases h0 : k < 0
      ·
        have HE : Hid (er = 5) := Lib.hid (by rw [HA.out]; simp [h0])
        go_wp2_with (first
          | (refine wpList_store_row rfl 37 (.tmp 4) (.tmp 46) rfl (w.heap.size + 2) Hs.zero rfl rfl _ _ (HZ.out _ H4.out) HSQ.out rfl H1Q.out ?_)
          | fail)
        exact bodyPost_ret (results_row_tmp rfl _ _ (w.heap.size + 2) _ _ _ _ rfl (setRow_heap _ _ _ _ _ _ (HZ.out _ H4.out)) huh rfl HSQ.out) rfl ⟨setRow_below (HBW.out _ H4.out).1 (by omega) _, .inl ⟨by rw [HE.out]; decide, by rw [HE.out]; rfl⟩⟩
      by_cases h9 : 999 < k
      ·
        have HE : Hid (er = 5) := Lib.hid (by rw [HA.out]; simp [h9])
        go_wp2_with (first
          | (refine wpList_store_row rfl 37 (.tmp 4) (.tmp 46) rfl (w.heap.size + 2) Hs.zero rfl rfl _ _ (HZ.out _ H4.out) HSQ.out rfl H1Q.out ?_)
          | fail)
        exact bodyPost_ret (results_row_tmp rfl _ _ (w.heap.size + 2) _ _ _ _ rfl (setRow_heap _ _ _ _ _ _ (HZ.out _ H4.out)) huh rfl HSQ.out) rfl ⟨setRow_below (HBW.out _ H4.out).1 (by omega) _, .inl ⟨by rw [HE.out]; decide, by rw [HE.out]; rfl⟩⟩
      have HA2 : Hid (er = if (!hr && decide (32 ≤ m)) = true then 14 else 0) := Lib.hid (by rw [HA.out]; simp [h0, h9])
      obtain ⟨wv, hwv⟩ : ∃ W, W = (w2.alloc (.cells #[.string ga, .string gb] 65)) := ⟨_, rfl⟩
      have HWV := Lib.hid hwv
      have h4 := H4.out
      rw [← hwv] at h4
      have HV4 := Lib.hid h4
      clear h4 hwv
      go_upto_region 7 with fail
      rw [← HWV.out]
      clear hx0 hx1 hx2 hlthx
      go_wp2_with fail
      go_loopw [10, 11] (fun v i wr => ∃ j : Nat, j ≤ m ∧ v = .bool (hasRule ((L 5).take j) (Rl.mk a b k)) ∧ i = .int .i64 (j : Int) ∧ Hid (Below wv.heap.size wv wr)) (fun _ i _ => m - (intOf i).toNat)
      case atStart => exact ⟨0, by omega, rfl, rfl, Lib.hid (Below.refl _ _)⟩
      case round =>
        obtain ⟨j, hj, rfl, rfl, hw⟩ := hrel
        have HWW := Lib.hid (HV4.out.trans (hw.out.mono HV4.out.size))
        obtain ⟨d5, dlt⟩ := HL5.out _ HWW.out
        obtain ⟨β, hβ⟩ : ∃ β, hasRule ((L 5).take j) (Rl.mk a b k) = β := ⟨_, rfl⟩
        rw [hβ]
        by_cases hlt : j < m
        · have hjl : j < (L 5).length := by rw [← HNM.out]; exact hlt
          have hsn := hasRule_snoc (L 5) (Rl.mk a b k) j hjl
          rw [hβ, ← rlA_at _ _ hjl] at hsn
          obtain ⟨b2, off, hA2, hb2, r2⟩ := rule_at (HHT.out.below (HBW.out _ HWW.out).1) hjl
          obtain ⟨y, hy⟩ : ∃ y, rlA (L 5) j = y := ⟨_, rfl⟩
          rw [hy] at r2 hsn
          obtain ⟨yi, yz, yr⟩ := y
          simp only [] at hsn
          have z0 : _ = some (Value.string yi) := r2 0 (.string yi) rfl
          have z1 : _ = some (Value.string yz) := r2 1 (.string yz) rfl
          rw [Nat.add_zero] at z0
          rw [hA2] at d5
          obtain ⟨hx0, hx1, hx2, hlthx⟩ := HCHX.out _ HWW.out
          have i1 : (0 : Int) ≤ (j : Int) := by omega
          have i2 : (j : Int) < (m : Int) := by omega
          have HSN := Lib.hid hsn
          clear hsn r2 hA2 hy hjl hβ hx2
          cases β with
          | true =>
            have HEQ : Hid (hasRule ((L 5).take (j + 1)) (Rl.mk a b k) = true) := Lib.hid (by rw [HSN.out]; simp)
            clear HSN
            go_wp2_with fail
            go_quiet (fail)
            go_wp2_with fail
            go_roundw
            case rel => exact ⟨j + 1, by omega, by rw [HEQ.out], by go_num, Lib.hid (below_drewN hw.out _)⟩
            case measure => simp [intOf]; omega
          | false =>
            cases he1 : Pl.eqv yi a with
            | false =>
              have he' : (yi.toList == a.toList) = false := he1
              rw [he1] at HSN
              clear he1
              have HEQ : Hid (hasRule ((L 5).take (j + 1)) (Rl.mk a b k) = false) := Lib.hid (by rw [HSN.out]; simp)
              clear HSN
              go_wp2_with fail
              go_quiet (fail)
              go_wp2_with fail
              go_roundw
              case rel => exact ⟨j + 1, by omega, by rw [HEQ.out], by go_num, Lib.hid (below_drewN hw.out _)⟩
              case measure => simp [intOf]; omega
            | true =>
              have he' : (yi.toList == a.toList) = true := he1
              rw [he1] at HSN
              clear he1
              cases he2 : Pl.eqv yz b with
              | false =>
                have hf' : (yz.toList == b.toList) = false := he2
                rw [he2] at HSN
                clear he2
                have HEQ : Hid (hasRule ((L 5).take (j + 1)) (Rl.mk a b k) = false) := Lib.hid (by rw [HSN.out]; simp)
                clear HSN
                go_wp2_with fail
                go_quiet (fail)
                go_wp2_with fail
                go_roundw
                case rel => exact ⟨j + 1, by omega, by rw [HEQ.out], by go_num, Lib.hid (below_drewN hw.out _)⟩
                case measure => simp [intOf]; omega
              | true =>
                have hf' : (yz.toList == b.toList) = true := he2
                rw [he2] at HSN
                clear he2
                have HEQ : Hid (hasRule ((L 5).take (j + 1)) (Rl.mk a b k) = true) := Lib.hid (by rw [HSN.out]; simp)
                clear HSN
                go_wp2_with fail
                go_quiet (fail)
                go_wp2_with fail
                go_roundw
                case rel => exact ⟨j + 1, by omega, by rw [HEQ.out], by go_num, Lib.hid (below_drewN hw.out _)⟩
                case measure => simp [intOf]; omega
        · have hqe : (L 5).take j = L 5 := List.take_of_length_le (by rw [← HNM.out]; omega)
          rw [hqe, HHR.out] at hβ
          subst hβ
          clear hqe
          cases hr with
          | true =>
            have HE : Hid (er = 0) := Lib.hid (by rw [HA2.out]; simp)
            go_wp2_with (first
              | (refine wpList_load_row rfl 37 (.tmp 2) rfl w.heap.size rfl _ _ _ _ (HH.out _ HWW.out) huh rfl (HSH.out _) ?_)
              | (refine wpList_load_row rfl 39 (.tmp 3) rfl (w.heap.size + 1) rfl _ _ _ _ (HX.out _ HWW.out) huHX rfl HSHX.out ?_)
              | fail)
            refine (HPU.out _ (HBW.out _ HWW.out).1).mono ?_
            rintro e w5 ⟨hb9, A, n, cc, hl, hown, rfl⟩
            have H9 := Lib.hid (HWW.out.trans (hb9.mono HWW.out.size))
            have HO9 := Lib.hid hown
            have HLE := Lib.hid hl
            have HSZ9 := Lib.hid (HBW.out _ HWW.out).2
            clear hb9 hown hl
            go_wp2_with (first
              | (refine wpList_store_row rfl 37 (.tmp 4) (.tmp 88) rfl (w.heap.size + 2) (h.set 5 A n cc).cells rfl rfl _ _ (HZ.out _ H9.out) (HSH.out _) rfl (H1C.out _) ?_)
              | fail)
            exact bodyPost_ret (results_row_tmp rfl _ _ (w.heap.size + 2) _ _ _ _ rfl (setRow_heap _ _ _ _ _ _ (HZ.out _ H9.out)) huh rfl (HSH.out _)) rfl ⟨setRow_below (HBW.out _ H9.out).1 (by omega) _, .inr ⟨HE.out, A, n, cc, HLE.out, own_rowed HO9.out (by have := HSZ9.out; omega) (by have := HSZ9.out; omega), rfl⟩⟩
          | false =>
            by_cases h32 : 32 ≤ m
            ·
              have HE : Hid (er = 14) := Lib.hid (by rw [HA2.out]; simp [h32])
              have h33 : (32 : Int) ≤ (m : Int) := by omega
              go_wp2_with (first
                | (refine wpList_store_row rfl 37 (.tmp 4) (.tmp 85) rfl (w.heap.size + 2) Hs.zero rfl rfl _ _ (HZ.out _ HWW.out) HSQ.out rfl H1Q.out ?_)
                | fail)
              exact bodyPost_ret (results_row_tmp rfl _ _ (w.heap.size + 2) _ _ _ _ rfl (setRow_heap _ _ _ _ _ _ (HZ.out _ HWW.out)) huh rfl HSQ.out) rfl ⟨setRow_below (HBW.out _ HWW.out).1 (by omega) _, .inl ⟨by rw [HE.out]; decide, by rw [HE.out]; rfl⟩⟩
            ·
              have h33 : ¬ (32 : Int) ≤ (m : Int) := by omega
              have HE : Hid (er = 0) := Lib.hid (by rw [HA2.out]; simp [h32])
              go_wp2_with (first
                | (refine wpList_load_row rfl 37 (.tmp 2) rfl w.heap.size rfl _ _ _ _ (HH.out _ HWW.out) huh rfl (HSH.out _) ?_)
                | (refine wpList_load_row rfl 39 (.tmp 3) rfl (w.heap.size + 1) rfl _ _ _ _ (HX.out _ HWW.out) huHX rfl HSHX.out ?_)
                | fail)
              refine (HPU.out _ (HBW.out _ HWW.out).1).mono ?_
              rintro e w5 ⟨hb9, A, n, cc, hl, hown, rfl⟩
              have H9 := Lib.hid (HWW.out.trans (hb9.mono HWW.out.size))
              have HO9 := Lib.hid hown
              have HLE := Lib.hid hl
              have HSZ9 := Lib.hid (HBW.out _ HWW.out).2
              clear hb9 hown hl
              go_wp2_with (first
                | (refine wpList_store_row rfl 37 (.tmp 4) (.tmp 88) rfl (w.heap.size + 2) (h.set 5 A n cc).cells rfl rfl _ _ (HZ.out _ H9.out) (HSH.out _) rfl (H1C.out _) ?_)
                | fail)
              exact bodyPost_ret (results_row_tmp rfl _ _ (w.heap.size + 2) _ _ _ _ rfl (setRow_heap _ _ _ _ _ _ (HZ.out _ H9.out)) huh rfl (HSH.out _)) rfl ⟨setRow_below (HBW.out _ H9.out).1 (by omega) _, .inr ⟨HE.out, A, n, cc, HLE.out, own_rowed HO9.out (by have := HSZ9.out; omega) (by have := HSZ9.out; omega), rfl⟩⟩
  | false =>
    cases ii with
    | false =>
      have HE : Hid (er = 12) := Lib.hid (by rw [HA.out]; simp)
      go_wp2_with (first
        | (refine wpList_store_row rfl 37 (.tmp 4) (.tmp 37) rfl (w.heap.size + 2) Hs.zero rfl rfl _ _ (HZ.out _ H4.out) HSQ.out rfl H1Q.out ?_)
        | fail)
      exact bodyPost_ret (results_row_tmp rfl _ _ (w.heap.size + 2) _ _ _ _ rfl (setRow_heap _ _ _ _ _ _ (HZ.out _ H4.out)) huh rfl HSQ.out) rfl ⟨setRow_below (HBW.out _ H4.out).1 (by omega) _, .inl ⟨by rw [HE.out]; decide, by rw [HE.out]; rfl⟩⟩
    | true =>
      cases iz with
      | false =>
        have HE : Hid (er = 12) := Lib.hid (by rw [HA.out]; simp)
        go_wp2_with (first
          | (refine wpList_store_row rfl 37 (.tmp 4) (.tmp 37) rfl (w.heap.size + 2) Hs.zero rfl rfl _ _ (HZ.out _ H4.out) HSQ.out rfl H1Q.out ?_)
          | fail)
        exact bodyPost_ret (results_row_tmp rfl _ _ (w.heap.size + 2) _ _ _ _ rfl (setRow_heap _ _ _ _ _ _ (HZ.out _ H4.out)) huh rfl HSQ.out) rfl ⟨setRow_below (HBW.out _ H4.out).1 (by omega) _, .inl ⟨by rw [HE.out]; decide, by rw [HE.out]; rfl⟩⟩
      | true =>
        by_cases h0 : k < 0
        ·
          have HE : Hid (er = 5) := Lib.hid (by rw [HA.out]; simp [h0])
          go_wp2_with (first
            | (refine wpList_store_row rfl 37 (.tmp 4) (.tmp 46) rfl (w.heap.size + 2) Hs.zero rfl rfl _ _ (HZ.out _ H4.out) HSQ.out rfl H1Q.out ?_)
            | fail)
          exact bodyPost_ret (results_row_tmp rfl _ _ (w.heap.size + 2) _ _ _ _ rfl (setRow_heap _ _ _ _ _ _ (HZ.out _ H4.out)) huh rfl HSQ.out) rfl ⟨setRow_below (HBW.out _ H4.out).1 (by omega) _, .inl ⟨by rw [HE.out]; decide, by rw [HE.out]; rfl⟩⟩
        by_cases h9 : 999 < k
        ·
          have HE : Hid (er = 5) := Lib.hid (by rw [HA.out]; simp [h9])
          go_wp2_with (first
            | (refine wpList_store_row rfl 37 (.tmp 4) (.tmp 46) rfl (w.heap.size + 2) Hs.zero rfl rfl _ _ (HZ.out _ H4.out) HSQ.out rfl H1Q.out ?_)
            | fail)
          exact bodyPost_ret (results_row_tmp rfl _ _ (w.heap.size + 2) _ _ _ _ rfl (setRow_heap _ _ _ _ _ _ (HZ.out _ H4.out)) huh rfl HSQ.out) rfl ⟨setRow_below (HBW.out _ H4.out).1 (by omega) _, .inl ⟨by rw [HE.out]; decide, by rw [HE.out]; rfl⟩⟩
        have HA2 : Hid (er = if (!hr && decide (32 ≤ m)) = true then 14 else 0) := Lib.hid (by rw [HA.out]; simp [h0, h9])
        obtain ⟨wv, hwv⟩ : ∃ W, W = (w2.alloc (.cells #[.string ga, .string gb] 65)) := ⟨_, rfl⟩
        have HWV := Lib.hid hwv
        have h4 := H4.out
        rw [← hwv] at h4
        have HV4 := Lib.hid h4
        clear h4 hwv
        go_upto_region 7 with fail
        rw [← HWV.out]
        clear hx0 hx1 hx2 hlthx
        go_wp2_with fail
        go_loopw [10, 11] (fun v i wr => ∃ j : Nat, j ≤ m ∧ v = .bool (hasRule ((L 5).take j) (Rl.mk a b k)) ∧ i = .int .i64 (j : Int) ∧ Hid (Below wv.heap.size wv wr)) (fun _ i _ => m - (intOf i).toNat)
        case atStart => exact ⟨0, by omega, rfl, rfl, Lib.hid (Below.refl _ _)⟩
        case round =>
          obtain ⟨j, hj, rfl, rfl, hw⟩ := hrel
          have HWW := Lib.hid (HV4.out.trans (hw.out.mono HV4.out.size))
          obtain ⟨d5, dlt⟩ := HL5.out _ HWW.out
          obtain ⟨β, hβ⟩ : ∃ β, hasRule ((L 5).take j) (Rl.mk a b k) = β := ⟨_, rfl⟩
          rw [hβ]
          by_cases hlt : j < m
          · have hjl : j < (L 5).length := by rw [← HNM.out]; exact hlt
            have hsn := hasRule_snoc (L 5) (Rl.mk a b k) j hjl
            rw [hβ, ← rlA_at _ _ hjl] at hsn
            obtain ⟨b2, off, hA2, hb2, r2⟩ := rule_at (HHT.out.below (HBW.out _ HWW.out).1) hjl
            obtain ⟨y, hy⟩ : ∃ y, rlA (L 5) j = y := ⟨_, rfl⟩
            rw [hy] at r2 hsn
            obtain ⟨yi, yz, yr⟩ := y
            simp only [] at hsn
            have z0 : _ = some (Value.string yi) := r2 0 (.string yi) rfl
            have z1 : _ = some (Value.string yz) := r2 1 (.string yz) rfl
            rw [Nat.add_zero] at z0
            rw [hA2] at d5
            obtain ⟨hx0, hx1, hx2, hlthx⟩ := HCHX.out _ HWW.out
            have i1 : (0 : Int) ≤ (j : Int) := by omega
            have i2 : (j : Int) < (m : Int) := by omega
            have HSN := Lib.hid hsn
            clear hsn r2 hA2 hy hjl hβ hx2
            cases β with
            | true =>
              have HEQ : Hid (hasRule ((L 5).take (j + 1)) (Rl.mk a b k) = true) := Lib.hid (by rw [HSN.out]; simp)
              clear HSN
              go_wp2_with fail
              go_quiet (fail)
              go_wp2_with fail
              go_roundw
              case rel => exact ⟨j + 1, by omega, by rw [HEQ.out], by go_num, Lib.hid (below_drewN hw.out _)⟩
              case measure => simp [intOf]; omega
            | false =>
              cases he1 : Pl.eqv yi a with
              | false =>
                have he' : (yi.toList == a.toList) = false := he1
                rw [he1] at HSN
                clear he1
                have HEQ : Hid (hasRule ((L 5).take (j + 1)) (Rl.mk a b k) = false) := Lib.hid (by rw [HSN.out]; simp)
                clear HSN
                go_wp2_with fail
                go_quiet (fail)
                go_wp2_with fail
                go_roundw
                case rel => exact ⟨j + 1, by omega, by rw [HEQ.out], by go_num, Lib.hid (below_drewN hw.out _)⟩
                case measure => simp [intOf]; omega
              | true =>
                have he' : (yi.toList == a.toList) = true := he1
                rw [he1] at HSN
                clear he1
                cases he2 : Pl.eqv yz b with
                | false =>
                  have hf' : (yz.toList == b.toList) = false := he2
                  rw [he2] at HSN
                  clear he2
                  have HEQ : Hid (hasRule ((L 5).take (j + 1)) (Rl.mk a b k) = false) := Lib.hid (by rw [HSN.out]; simp)
                  clear HSN
                  go_wp2_with fail
                  go_quiet (fail)
                  go_wp2_with fail
                  go_roundw
                  case rel => exact ⟨j + 1, by omega, by rw [HEQ.out], by go_num, Lib.hid (below_drewN hw.out _)⟩
                  case measure => simp [intOf]; omega
                | true =>
                  have hf' : (yz.toList == b.toList) = true := he2
                  rw [he2] at HSN
                  clear he2
                  have HEQ : Hid (hasRule ((L 5).take (j + 1)) (Rl.mk a b k) = true) := Lib.hid (by rw [HSN.out]; simp)
                  clear HSN
                  go_wp2_with fail
                  go_quiet (fail)
                  go_wp2_with fail
                  go_roundw
                  case rel => exact ⟨j + 1, by omega, by rw [HEQ.out], by go_num, Lib.hid (below_drewN hw.out _)⟩
                  case measure => simp [intOf]; omega
          · have hqe : (L 5).take j = L 5 := List.take_of_length_le (by rw [← HNM.out]; omega)
            rw [hqe, HHR.out] at hβ
            subst hβ
            clear hqe
            cases hr with
            | true =>
              have HE : Hid (er = 0) := Lib.hid (by rw [HA2.out]; simp)
              go_wp2_with (first
                | (refine wpList_load_row rfl 37 (.tmp 2) rfl w.heap.size rfl _ _ _ _ (HH.out _ HWW.out) huh rfl (HSH.out _) ?_)
                | (refine wpList_load_row rfl 39 (.tmp 3) rfl (w.heap.size + 1) rfl _ _ _ _ (HX.out _ HWW.out) huHX rfl HSHX.out ?_)
                | fail)
              refine (HPU.out _ (HBW.out _ HWW.out).1).mono ?_
              rintro e w5 ⟨hb9, A, n, cc, hl, hown, rfl⟩
              have H9 := Lib.hid (HWW.out.trans (hb9.mono HWW.out.size))
              have HO9 := Lib.hid hown
              have HLE := Lib.hid hl
              have HSZ9 := Lib.hid (HBW.out _ HWW.out).2
              clear hb9 hown hl
              go_wp2_with (first
                | (refine wpList_store_row rfl 37 (.tmp 4) (.tmp 88) rfl (w.heap.size + 2) (h.set 5 A n cc).cells rfl rfl _ _ (HZ.out _ H9.out) (HSH.out _) rfl (H1C.out _) ?_)
                | fail)
              exact bodyPost_ret (results_row_tmp rfl _ _ (w.heap.size + 2) _ _ _ _ rfl (setRow_heap _ _ _ _ _ _ (HZ.out _ H9.out)) huh rfl (HSH.out _)) rfl ⟨setRow_below (HBW.out _ H9.out).1 (by omega) _, .inr ⟨HE.out, A, n, cc, HLE.out, own_rowed HO9.out (by have := HSZ9.out; omega) (by have := HSZ9.out; omega), rfl⟩⟩
            | false =>
              by_cases h32 : 32 ≤ m
              ·
                have HE : Hid (er = 14) := Lib.hid (by rw [HA2.out]; simp [h32])
                have h33 : (32 : Int) ≤ (m : Int) := by omega
                go_wp2_with (first
                  | (refine wpList_store_row rfl 37 (.tmp 4) (.tmp 85) rfl (w.heap.size + 2) Hs.zero rfl rfl _ _ (HZ.out _ HWW.out) HSQ.out rfl H1Q.out ?_)
                  | fail)
                exact bodyPost_ret (results_row_tmp rfl _ _ (w.heap.size + 2) _ _ _ _ rfl (setRow_heap _ _ _ _ _ _ (HZ.out _ HWW.out)) huh rfl HSQ.out) rfl ⟨setRow_below (HBW.out _ HWW.out).1 (by omega) _, .inl ⟨by rw [HE.out]; decide, by rw [HE.out]; rfl⟩⟩
              ·
                have h33 : ¬ (32 : Int) ≤ (m : Int) := by omega
                have HE : Hid (er = 0) := Lib.hid (by rw [HA2.out]; simp [h32])
                go_wp2_with (first
                  | (refine wpList_load_row rfl 37 (.tmp 2) rfl w.heap.size rfl _ _ _ _ (HH.out _ HWW.out) huh rfl (HSH.out _) ?_)
                  | (refine wpList_load_row rfl 39 (.tmp 3) rfl (w.heap.size + 1) rfl _ _ _ _ (HX.out _ HWW.out) huHX rfl HSHX.out ?_)
                  | fail)
                refine (HPU.out _ (HBW.out _ HWW.out).1).mono ?_
                rintro e w5 ⟨hb9, A, n, cc, hl, hown, rfl⟩
                have H9 := Lib.hid (HWW.out.trans (hb9.mono HWW.out.size))
                have HO9 := Lib.hid hown
                have HLE := Lib.hid hl
                have HSZ9 := Lib.hid (HBW.out _ HWW.out).2
                clear hb9 hown hl
                go_wp2_with (first
                  | (refine wpList_store_row rfl 37 (.tmp 4) (.tmp 88) rfl (w.heap.size + 2) (h.set 5 A n cc).cells rfl rfl _ _ (HZ.out _ H9.out) (HSH.out _) rfl (H1C.out _) ?_)
                  | fail)
                exact bodyPost_ret (results_row_tmp rfl _ _ (w.heap.size + 2) _ _ _ _ rfl (setRow_heap _ _ _ _ _ _ (HZ.out _ H9.out)) huh rfl (HSH.out _)) rfl ⟨setRow_below (HBW.out _ H9.out).1 (by omega) _, .inr ⟨HE.out, A, n, cc, HLE.out, own_rowed HO9.out (by have := HSZ9.out; omega) (by have := HSZ9.out; omega), rfl⟩⟩

end Go.Proofs.YtjphjblcahadkaaGreat
