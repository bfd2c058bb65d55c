/-
  CONTRACTS of the code's Add, and of what it asks. (By wip/tools/gen_vadd.py.)
  THE CONTRACTS of the code of stage 13. (By wip/tools/gen_vadd.py.)
  (By wip/tools/merge.py.)
-/
import Derived.Test.YtjphjblcahadkaaGreatVOrd
import Derived.Test.YtjphjblcahadkaaGreatVFit
import Derived.Test.YtjphjblcahadkaaGreatVLst
import Derived.Test.YtjphjblcahadkaaGreatUCon
namespace Go.Proofs.YtjphjblcahadkaaGreat
set_option linter.unusedVariables false
open Go.RowKit
open Pl (firstG findG putG)

theorem firstG_any (f : List Value → Bool) (L : List (List Value)) : (firstG f L).isSome = L.any f := by
  unfold firstG
  cases h : L.findIdx? f with
  | none =>
    rw [List.findIdx?_eq_none_iff] at h
    rw [show L.any f = false from List.any_eq_false.2 (fun p hp => by rw [h p hp]; simp)]
    rfl
  | some i =>
    obtain ⟨hi, h1, _⟩ := List.findIdx?_eq_some_iff_getElem.1 h
    rw [show L.any f = true from List.any_eq_true.2 ⟨L[i], List.getElem_mem hi, h1⟩]
    rfl
/-- The table of rules. -/
abbrev tvRule : Value := .func (.func 58) #[] #[]
attribute [local go_sem] store_func
theorem tabRule_any (w : World) : Calls Tryz.prog 30 #[] w fun e w' => e = .returned (.agg #[tvRule]) ∧ Below w.heap.size w w' := by
  go_enter Tryz.func30, Tryz.ntmps30
  go_wp2
  refine bodyPost_ret (v := .agg #[tvRule]) ?_ rfl ⟨rfl, ?_⟩
  · simp [results, Tryz.results30, go_sem]
  · exact (Below.refl _ _).alloc (Nat.le_refl _) _
theorem tellsRule (w : World) : TellsO kRule w 58 #[] ordRule := tellsI w
theorem rule_fits (a b : ByteArray) (k : Int) : Fits kRule [.string a, .string b, .int .i64 k] := Rl.fits ⟨a, b, k⟩
theorem has_find (LR : List (List Value)) (a b : ByteArray) (k : Int) : (findG ordRule LR [.string a, .string b, .int .i64 k]).isSome = hasRule LR (Rl.mk a b k) := by
  unfold findG hasRule
  rw [firstG_any]
  congr 1
  funext e
  exact ordRule_zero _ _
set_option maxRecDepth 100000 in
set_option maxHeartbeats 1600000 in
theorem cisItem_any (h : Hs) (L : Nat → List (List Value)) (s : ByteArray) (w : World) (hh : HT h L w) :
    Calls Tryz.prog 55 #[.agg h.cells, .string s] w fun e w' => e = .returned (.bool (emp s || (atItem (L 0) s).isSome)) ∧ Below w.heap.size w w' := by
  obtain ⟨x, hx, hxo⟩ := item_it hh s
  obtain ⟨ii, hii⟩ : ∃ z, (atItem (L 0) s).isSome = z := ⟨_, rfl⟩
  have CI : Hid (∀ W, Below w.heap.size w W → Calls Tryz.prog 35 #[.agg h.cells, .string s] W fun e w' => e = .returned (.tuple #[.agg #[.string x.code, .string (x.nm 0), .int .i64 (x.fc 0), .string (x.nm 1), .int .i64 (x.fc 1), .string (x.nm 2), .int .i64 (x.fc 2), .string (x.nm 3), .int .i64 (x.fc 3), .int .i64 x.vol, .int .i64 x.wei, .bool x.lots, .bool x.serial, .bool x.chk], .bool ii]) ∧ Below W.heap.size W w') := Lib.hid (fun W hW => by have := fcItem (hh.below hW) s; rw [hx, hii] at this; exact this)
  obtain ⟨v, hv⟩ : ∃ v, (emp s || ii) = v := ⟨_, rfl⟩
  have HV : Hid (v = (s.toList.isEmpty || ii)) := Lib.hid (by rw [← hv]; rfl)
  rw [hii, hv]
  clear hii hv hx hxo hh
  obtain ⟨W0, hW0⟩ : ∃ W0, W0 = (w.alloc (.cells h.cells 37)) := ⟨_, rfl⟩
  have H0 : Hid (Below w.heap.size w W0) := Lib.hid (by rw [hW0]; exact (Below.refl _ _).alloc (Nat.le_refl _) _)
  have HH : Hid (W0.heap[w.heap.size]? = some (.cells h.cells 37 (0, 0))) := Lib.hid (by rw [hW0]; exact heap_alloc_new _ _)
  have huh := Tryz.underlying37
  have HSH : Hid (∀ a : Hs, (Tryz.prog.info? 37).map (·.size) = some a.cells.size) := Lib.hid (fun a => by kernel_rfl)
  cases he : s.toList.isEmpty with
  | true =>
    have HE : Hid (v = true) := Lib.hid (by rw [HV.out, he]; rfl)
    clear HV
    subst hW0
    go_enter Tryz.func55, Tryz.ntmps55
    go_wp2_with fail
    go_ret
    exact ⟨by rw [HE.out]; rfl, H0.out⟩
  | false =>
    have HE : Hid (v = ii) := Lib.hid (by rw [HV.out, he]; rfl)
    clear HV
    subst hW0
    go_enter Tryz.func55, Tryz.ntmps55
    go_wp2_with (first
      | (refine wpList_load_row rfl 37 (.tmp 2) rfl w.heap.size rfl _ _ _ _ HH.out huh rfl (HSH.out _) ?_)
      | fail)
    refine (CI.out _ H0.out).mono ?_
    rintro e w1 ⟨rfl, hb1⟩
    have H1 := Lib.hid (H0.out.trans (hb1.mono H0.out.size))
    clear hb1
    have H2 := Lib.hid (H1.out.alloc H1.out.size (.cells #[.string x.code, .string (x.nm 0), .int .i64 (x.fc 0), .string (x.nm 1), .int .i64 (x.fc 1), .string (x.nm 2), .int .i64 (x.fc 2), .string (x.nm 3), .int .i64 (x.fc 3), .int .i64 x.vol, .int .i64 x.wei, .bool x.lots, .bool x.serial, .bool x.chk] 59))
    go_wp2_with fail
    go_ret
    exact ⟨by rw [HE.out]; rfl, H2.out⟩
set_option maxRecDepth 100000 in
theorem czone1_any (gi : Nat) (s r0 r1 : ByteArray) (w : World) (hc : w.cell? ⟨gi, 0, none⟩ = some (.string s)) (hl : gi < w.heap.size) : Calls Tryz.prog 86 #[.agg #[.string r0, .string r1], .pointer (some ⟨gi, 0, none⟩)] w fun e w' => e = .returned (.bool (Pl.eqv r0 s)) ∧ Below w.heap.size w w' := by
  obtain ⟨v, hv⟩ : ∃ v, Pl.eqv r0 s = v := ⟨_, rfl⟩
  have HV : (r0.toList == s.toList) = v := hv
  rw [hv]
  have HB : Hid (Below w.heap.size w (w.alloc (.cells #[.string r0, .string r1] 65))) := Lib.hid ((Below.refl _ _).alloc (Nat.le_refl _) _)
  have hc2 : (w.alloc (.cells #[.string r0, .string r1] 65)).cell? ⟨gi, 0, none⟩ = some (.string s) := (HB.out.cell (p := ⟨gi, 0, none⟩) hl).trans hc
  clear hv
  go_enter Tryz.func86, Tryz.ntmps86
  go_wp2_with fail
  go_ret
  exact ⟨rfl, HB.out⟩
set_option maxRecDepth 100000 in
set_option maxHeartbeats 1600000 in
theorem cisZone_any (h : Hs) (L : Nat → List (List Value)) (s : ByteArray) (w : World) (hh : HT h L w) :
    Calls Tryz.prog 56 #[.agg h.cells, .string s] w fun e w' => e = .returned (.bool (atZone (L 2) s).isSome) ∧ Below w.heap.size w w' := by
  obtain ⟨hn, hn6, hL, hr⟩ := hh 2 (by decide)
  have hat : (atZone (L 2) s).isSome = (L 2).any (fun e => Pl.eqv (codeOf e) s) := by
    unfold atZone findG
    rw [firstG_any]
    congr 1
    funext e
    exact Pl.cmp_zero _ _
  rw [hat]
  obtain ⟨W0, hW0⟩ : ∃ W0, W0 = (w.alloc (.cells h.cells 37)).alloc (.cells #[.string s] 9) := ⟨_, rfl⟩
  have H0 : Hid (Below w.heap.size w W0) := Lib.hid (by rw [hW0]; exact ((Below.refl _ _).alloc (Nat.le_refl _) _).alloc (by simp) _)
  have HH : Hid (W0.heap[w.heap.size]? = some (.cells h.cells 37 (0, 0))) := Lib.hid (by rw [hW0]; exact (Below.heap_alloc _ _ _ (by simp)).trans (heap_alloc_new _ _))
  have HX : Hid (W0.heap[w.heap.size + 1]? = some (.cells #[.string s] 9 (0, 0))) := Lib.hid (by
    rw [hW0]
    have hq := heap_alloc_new (w.alloc (.cells h.cells 37)) (.cells #[.string s] 9)
    simpa using hq)
  have c2 : W0.cell? ⟨w.heap.size, 2, none⟩ = some (.slice (h.A 2) (h.n 2) (h.c 2)) := by rw [cell_of_block HH.out]; rfl
  have l2 : w.heap.size < W0.heap.size := lt_of_block HH.out
  have HTL : Hid (TellsF kZone W0 86 #[.pointer (some ⟨w.heap.size + 1, 0, none⟩)] (fun e => Pl.eqv (codeOf e) s)) := Lib.hid ⟨fun args W => by kernel_rfl, fun W hW e he => by
    have hx1 := (hW.block _ (lt_of_block HX.out)).trans HX.out
    have h1 := czone1_any (w.heap.size + 1) s (codeOf e) (siteZ e) W (by rw [cell_of_block hx1]; rfl) (lt_of_block hx1)
    have h2 : e.toArray = #[.string (codeOf e), .string (siteZ e)] := by conv => lhs; rw [zone_cells he]
    rw [← h2] at h1
    exact h1⟩
  have HK := Lib.hid (hasZone (h.A 2) (h.n 2) (h.c 2) _ _ _ (L 2) W0 hn hn6 hL (hr.below H0.out |>.mono H0.out.size) HTL.out)
  have hmf : ∀ (fn : Fn) (first cap : Array Value) (w : World), (Instr.makeFunc fn first cap).run Tryz.prog w = .ok (.func fn first cap) w := fun _ _ _ _ => rfl
  have HW0 := Lib.hid hW0
  clear hn hn6 hL hr hh hat hW0
  go_enter Tryz.func56, Tryz.ntmps56
  go_upto_region 1 with fail
  rw [← HW0.out]
  clear HW0
  go_wp2_with fail
  refine HK.out.mono ?_
  rintro e w1 ⟨rfl, hb1⟩
  have H1 := Lib.hid (H0.out.trans (hb1.mono H0.out.size))
  clear hb1 c2 l2
  go_wp2_with fail
  go_ret
  exact ⟨rfl, H1.out⟩
set_option maxRecDepth 100000 in
set_option maxHeartbeats 3200000 in
theorem ccheck_any (h : Hs) (L : Nat → List (List Value)) (a b : ByteArray) (k : Int) (w : World) (hh : HT h L w) (hwf : Wf k) :
    Calls Tryz.prog 29 #[.agg h.cells, .agg #[.string a, .string b, .int .i64 k]] w fun e w' => e = .returned (.int .i64 (addRE (L 0) (L 2) (L 5) (Rl.mk a b k) : Nat)) ∧ Below w.heap.size w w' := by
  obtain ⟨hn, hn6, hL, hr⟩ := hh 5 (by decide)
  obtain ⟨ii, hii⟩ : ∃ z, (emp a || (atItem (L 0) a).isSome) = z := ⟨_, rfl⟩
  obtain ⟨iz, hiz⟩ : ∃ z, (atZone (L 2) b).isSome = z := ⟨_, rfl⟩
  obtain ⟨fr, hfr⟩ : ∃ z, findG ordRule (L 5) [.string a, .string b, .int .i64 k] = z := ⟨_, rfl⟩
  obtain ⟨r, hre⟩ : ∃ r, addRE (L 0) (L 2) (L 5) (Rl.mk a b k) = r := ⟨_, rfl⟩
  have HA : Hid (r = if (!ii || !iz) = true then 12 else if (decide (k < 0) || decide (999 < k)) = true then 5 else if (!fr.isSome && decide (32 ≤ h.n 5)) = true then 14 else 0) := Lib.hid (by
    rw [← hre, ← hii, ← hiz, ← hfr, has_find, hn]
    unfold addRE
    rw [Bool.not_or])
  have CI := Lib.hid (fun W (hW : Below w.heap.size w W) => cisItem_any h L a W (hh.below hW))
  have CZ := Lib.hid (fun W (hW : Below w.heap.size w W) => cisZone_any h L b W (hh.below hW))
  have CF := Lib.hid (fun W (hW : Below w.heap.size w W) => findRule (h.A 5) (h.n 5) (h.c 5) 58 #[] ordRule [.string a, .string b, .int .i64 k] (L 5) W hn hn6 hL (rule_fits a b k) ((hh.below hW) 5 (by decide)).2.2.2 (tellsRule W))
  rw [hii] at CI
  rw [hiz] at CZ
  rw [hfr] at CF
  rw [hre]
  obtain ⟨m, hm⟩ : ∃ m, h.n 5 = m := ⟨_, rfl⟩
  rw [hm] at HA CF hn6
  obtain ⟨W0, hW0⟩ : ∃ W0, W0 = (w.alloc (.cells h.cells 37)).alloc (.cells #[.string a, .string b, .int .i64 k] 39) := ⟨_, rfl⟩
  have hb0 : Below w.heap.size w W0 := by rw [hW0]; exact ((Below.refl _ _).alloc (Nat.le_refl _) _).alloc (by simp) _
  have HH : Hid (∀ W, Below W0.heap.size W0 W → W.heap[w.heap.size]? = some (.cells h.cells 37 (0, 0))) := Lib.hid (fun W hW => (hW.block _ (by rw [hW0]; simp <;> omega)).trans (by rw [hW0]; exact (Below.heap_alloc _ _ _ (by simp)).trans (heap_alloc_new _ _)))
  have HX : Hid (∀ W, Below W0.heap.size W0 W → W.heap[w.heap.size + 1]? = some (.cells #[.string a, .string b, .int .i64 k] 39 (0, 0))) := Lib.hid (fun W hW => (hW.block _ (by rw [hW0]; simp)).trans (by
    rw [hW0]
    have hq := heap_alloc_new (w.alloc (.cells h.cells 37)) (.cells #[.string a, .string b, .int .i64 k] 39)
    simpa using hq))
  have HBW : Hid (∀ W, Below W0.heap.size W0 W → Below w.heap.size w W) := Lib.hid (fun W hW => hb0.trans (hW.mono hb0.size))
  have HCX : Hid (∀ W, Below W0.heap.size W0 W → W.cell? ⟨w.heap.size + 1, 0, none⟩ = some (.string a) ∧ W.cell? ⟨w.heap.size + 1, 1, none⟩ = some (.string b) ∧ W.cell? ⟨w.heap.size + 1, 2, none⟩ = some (.int .i64 k) ∧ w.heap.size + 1 < W.heap.size) := Lib.hid (fun W hW => ⟨by rw [cell_of_block (HX.out W hW)]; rfl, by rw [cell_of_block (HX.out W hW)]; rfl, by rw [cell_of_block (HX.out W hW)]; rfl, lt_of_block (HX.out W hW)⟩)
  have HL5 : Hid (∀ W, Below W0.heap.size W0 W → W.cell? ⟨w.heap.size, 5, none⟩ = some (.slice (h.A 5) m (h.c 5)) ∧ w.heap.size < W.heap.size) := Lib.hid (fun W hW => ⟨by rw [cell_of_block (HH.out W hW), ← hm]; rfl, lt_of_block (HH.out W hW)⟩)
  have huh := Tryz.underlying37
  have hur := Tryz.underlying39
  have HSH : Hid (∀ a : Hs, (Tryz.prog.info? 37).map (·.size) = some a.cells.size) := Lib.hid (fun a => by kernel_rfl)
  have HSR : Hid ((Tryz.prog.info? 39).map (·.size) = some 3) := Lib.hid (by kernel_rfl)
  have H0 := Lib.hid (Below.refl W0.heap.size W0)
  clear hii hiz hfr hre hm hn hL hr hh hb0
  obtain ⟨x0, x1, x2, lx⟩ := HCX.out _ H0.out
  subst hW0
  go_enter Tryz.func29, Tryz.ntmps29
  go_wp2_with (first
    | (refine wpList_load_row rfl 37 (.tmp 2) rfl w.heap.size rfl _ _ _ _ (HH.out _ H0.out) huh rfl (HSH.out _) ?_)
    | fail)
  refine (CI.out _ (HBW.out _ H0.out)).mono ?_
  rintro e w1 ⟨rfl, hb1⟩
  have H1 := Lib.hid (H0.out.trans (hb1.mono H0.out.size))
  clear hb1 x0 x1 x2 lx
  obtain ⟨x0, x1, x2, lx⟩ := HCX.out _ H1.out
  cases ii with
  | false =>
    have HE : Hid (r = 12) := Lib.hid (by rw [HA.out]; rfl)
    go_wp2_with fail
    go_ret
    exact ⟨by rw [HE.out]; rfl, HBW.out _ H1.out⟩
  | true =>
    go_wp2_with (first
      | (refine BigFrame.wpList_want (by kernel_rfl) (fun K hK => Go.wp_load_mid 37 (.tmp 2) rfl w.heap.size 0 rfl h.cells.toList _ (range_row0 (HH.out _ H1.out)) huh rfl (by have := HSH.out h; simpa using this) (hK _ _ ?_)); clear hK K)
      | fail)
    refine (CZ.out _ (HBW.out _ H1.out)).mono ?_
    rintro e w2 ⟨rfl, hb2⟩
    have H2 := Lib.hid (H1.out.trans (hb2.mono H1.out.size))
    clear hb2 x0 x1 x2 lx
    obtain ⟨x0, x1, x2, lx⟩ := HCX.out _ H2.out
    cases iz with
    | false =>
      have HE : Hid (r = 12) := Lib.hid (by rw [HA.out]; rfl)
      go_wp2_with fail
      go_ret
      exact ⟨by rw [HE.out]; rfl, HBW.out _ H2.out⟩
    | true =>
      by_cases q1 : k < 0
      · have HE : Hid (r = 5) := Lib.hid (by rw [HA.out]; simp [q1])
        go_wp2_with fail
        go_ret
        exact ⟨by rw [HE.out]; rfl, HBW.out _ H2.out⟩
      · by_cases q2 : 999 < k
        · have HE : Hid (r = 5) := Lib.hid (by rw [HA.out]; simp [q2])
          go_wp2_with fail
          go_ret
          exact ⟨by rw [HE.out]; rfl, HBW.out _ H2.out⟩
        · have HA2 : Hid (r = if (!fr.isSome && decide (32 ≤ m)) = true then 14 else 0) := Lib.hid (by rw [HA.out]; simp [q1, q2])
          have HRX : Hid (∀ X : BW w2, X.W.heap[w.heap.size + 1]? = some (.cells #[.string a, .string b, .int .i64 k] 39 (0, 0))) := Lib.hid (fun X => HX.out _ (H2.out.trans (X.h.mono H2.out.size)))
          have y5 : ∀ X : BW w2, X.W.cell? ⟨w.heap.size, 5, none⟩ = some (.slice (h.A 5) m (h.c 5)) := fun X => (HL5.out _ (H2.out.trans (X.h.mono H2.out.size))).1
          have CFX : Hid (∀ X : BW w2, Calls Tryz.prog 57 #[.agg #[.func (.func 58) #[] #[]], .slice (h.A 5) m (h.c 5), .agg [.string a, .string b, .int .i64 k].toArray] X.W fun e w' => e = .returned (firstV fr) ∧ Below X.W.heap.size X.W w') := Lib.hid (fun X => CF.out _ (HBW.out _ (H2.out.trans (X.h.mono H2.out.size))))
          clear HA CI CZ CF
          go_wp2_with fail
          refine wp_grow w2 (by kernel_rfl) (by kernel_rfl) (Below.refl _ _) ?_
          simp only []
          go_big_quiet_step (exact grow_call _ (tabRule_any _))
          iterate 2 go_big_quiet_step (fail)
          refine BigFrame.wpQuiet_want (by kernel_rfl) (fun K hK => quiet_load_mid 39 (.tmp 3) rfl (w.heap.size + 1) 0 rfl [.string a, .string b, .int .i64 k] _ (fun W ⟨X, hX⟩ => by rw [hX]; exact range_row0 (HRX.out X)) hur rfl HSR.out (hK _ ?_))
          simp only [Act.put, List.setIfInBounds_toArray, List.set_cons_zero, List.set_cons_succ]
          go_big_quiet_step (exact grow_call _ (CFX.out _))
          iterate 5 go_big_quiet_step (fail)
          refine wpQuiet_nil ?_
          intro X
          have H3 := Lib.hid (H2.out.trans (X.h.mono H2.out.size))
          generalize X.W = w3 at H3
          clear y5 HRX CFX
          obtain ⟨z5, lz⟩ := HL5.out _ H3.out
          cases fr with
          | some i =>
            have HE : Hid (r = 0) := Lib.hid (by rw [HA2.out]; rfl)
            go_wp2_with fail
            go_ret
            exact ⟨by rw [HE.out]; rfl, HBW.out _ H3.out⟩
          | none =>
            by_cases q3 : 32 ≤ m
            · have HE : Hid (r = 14) := Lib.hid (by rw [HA2.out]; simp [q3])
              go_wp2_with fail
              go_ret
              exact ⟨by rw [HE.out]; rfl, HBW.out _ H3.out⟩
            · have HE : Hid (r = 0) := Lib.hid (by rw [HA2.out]; simp [q3])
              go_wp2_with fail
              go_ret
              exact ⟨by rw [HE.out]; rfl, HBW.out _ H3.out⟩
set_option maxRecDepth 100000 in
set_option maxHeartbeats 3200000 in
theorem cadd_any (h : Hs) (L : Nat → List (List Value)) (a b : ByteArray) (rk : Int) (w : World) (hh : HT h L w) (hn1 : h.n 5 ≤ 1000) (hc1 : h.n 5 ≤ h.c 5 ∧ h.c 5 ≤ 9223372036854775807) (hwf : Wf rk) :
    Calls Tryz.prog 8 #[.agg h.cells, .agg #[.string a, .string b, .int .i64 rk]] w (PutP 39 3 5 (addRE (L 0) (L 2) (L 5) (Rl.mk a b rk)) (putG ordRule (L 5) (Rl.mk a b rk).cells) h w) := by
  have HCK := Lib.hid (fun W (hW : Below w.heap.size w W) => ccheck_any h L a b rk W (hh.below hW) hwf)
  have HPU := Lib.hid (fun W (hW : Below w.heap.size w W) => putRule (h.A 5) (h.n 5) (h.c 5) 58 #[] ordRule [.string a, .string b, .int .i64 rk] (L 5) W (hh 5 (by decide)).1 hc1.1 hc1.2 (by omega) (hh 5 (by decide)).2.2.1 (rule_fits _ _ _) ((hh.below hW) 5 (by decide)).2.2.2 (tellsRule W))
  obtain ⟨l, hl⟩ : ∃ l, putG ordRule (L 5) [.string a, .string b, .int .i64 rk] = l := ⟨_, rfl⟩
  have hl2 : putG ordRule (L 5) (Rl.mk a b rk).cells = l := hl
  obtain ⟨m, hmm⟩ : ∃ m, h.n 5 = m := ⟨_, rfl⟩
  obtain ⟨k, hk⟩ : ∃ k, addRE (L 0) (L 2) (L 5) (Rl.mk a b rk) = k := ⟨_, rfl⟩
  rw [hl, hmm] at HPU
  rw [hmm] at hn1
  rw [hk] at HCK
  rw [hl2, hk]
  have HMM := Lib.hid hmm
  clear hl hl2 hmm hk hwf
  obtain ⟨W0, hW0⟩ : ∃ W0, W0 = (((w.alloc (.cells h.cells 37)).alloc (.cells #[.string a, .string b, .int .i64 rk] 39)).alloc (.cells #[.slice none 0 0, .slice none 0 0, .slice none 0 0, .slice none 0 0, .slice none 0 0, .slice none 0 0, .slice none 0 0, .slice none 0 0, .slice none 0 0, .slice none 0 0, .slice none 0 0, .slice none 0 0, .slice none 0 0, .slice none 0 0, .int .i64 0] 37)) := ⟨_, rfl⟩
  have hb0 : Below w.heap.size w W0 := by rw [hW0]; exact (((Below.refl _ _).alloc (Nat.le_refl _) _).alloc (by simp <;> omega) _).alloc (by simp <;> omega) _
  have hs0 : W0.heap.size = w.heap.size + 3 := by rw [hW0]; simp
  have HH : Hid (∀ W, Below W0.heap.size W0 W → W.heap[w.heap.size]? = some (.cells h.cells 37 (0, 0))) := Lib.hid (fun W hW => (hW.block _ (by omega)).trans (by
    rw [hW0]
    have hq := heap_alloc_new w (.cells h.cells 37)
    exact (Below.heap_alloc _ _ _ (by simp <;> omega)).trans ((Below.heap_alloc _ _ _ (by simp <;> omega)).trans ((by simpa using hq)))))
  have HX : Hid (∀ W, Below W0.heap.size W0 W → W.heap[w.heap.size + 1]? = some (.cells #[.string a, .string b, .int .i64 rk] 39 (0, 0))) := Lib.hid (fun W hW => (hW.block _ (by omega)).trans (by
    rw [hW0]
    have hq := heap_alloc_new (w.alloc (.cells h.cells 37)) (.cells #[.string a, .string b, .int .i64 rk] 39)
    exact (Below.heap_alloc _ _ _ (by simp <;> omega)).trans ((by simpa using hq))))
  have HZ : Hid (∀ W, Below W0.heap.size W0 W → W.heap[w.heap.size + 2]? = some (.cells Hs.zero 37 (0, 0))) := Lib.hid (fun W hW => (hW.block _ (by omega)).trans (by
    rw [hW0]
    have hq := heap_alloc_new ((w.alloc (.cells h.cells 37)).alloc (.cells #[.string a, .string b, .int .i64 rk] 39)) (.cells #[.slice none 0 0, .slice none 0 0, .slice none 0 0, .slice none 0 0, .slice none 0 0, .slice none 0 0, .slice none 0 0, .slice none 0 0, .slice none 0 0, .slice none 0 0, .slice none 0 0, .slice none 0 0, .slice none 0 0, .slice none 0 0, .int .i64 0] 37)
    exact (by simpa [Hs.zero] using hq)))
  have HBW : Hid (∀ W, Below W0.heap.size W0 W → Below w.heap.size w W ∧ w.heap.size + 3 ≤ W.heap.size) := Lib.hid (fun W hW => ⟨hb0.trans (hW.mono (by omega)), by have := hW.size; omega⟩)
  have huh := Tryz.underlying37
  have HSH : Hid (∀ a : Hs, (Tryz.prog.info? 37).map (·.size) = some a.cells.size) := Lib.hid (fun a => by kernel_rfl)
  have HSQ : Hid ((Tryz.prog.info? 37).map (·.size) = some Hs.zero.size) := Lib.hid (by kernel_rfl)
  have H1C : Hid (∀ a : Hs, a.cells.all (·.oneCell') = true) := Lib.hid (fun a => by simp [Hs.cells, Value.oneCell'])
  have H1Q : Hid (Hs.zero.all (·.oneCell') = true) := Lib.hid (by simp [Hs.zero, Value.oneCell'])
  have huHX := Tryz.underlying39
  have HSHX : Hid ((Tryz.prog.info? 39).map (·.size) = some 3) := Lib.hid (by kernel_rfl)
  have HCHX : Hid (∀ W, Below W0.heap.size W0 W → W.cell? ⟨w.heap.size + 1, 0, none⟩ = some (.string a) ∧ W.cell? ⟨w.heap.size + 1, 1, none⟩ = some (.string b) ∧ W.cell? ⟨w.heap.size + 1, 2, none⟩ = some (.int .i64 rk) ∧ w.heap.size + 1 < W.heap.size) := Lib.hid (fun W hW => ⟨by rw [cell_of_block (HX.out W hW)]; rfl, by rw [cell_of_block (HX.out W hW)]; rfl, by rw [cell_of_block (HX.out W hW)]; rfl, by have := hW.size; omega⟩)
  have HLI : Hid (∀ W, Below W0.heap.size W0 W → W.cell? ⟨w.heap.size, 5, none⟩ = some (.slice (h.A 5) m (h.c 5)) ∧ w.heap.size < W.heap.size) := Lib.hid (fun W hW => ⟨by rw [cell_of_block (HH.out W hW), ← HMM.out]; rfl, by have := hW.size; omega⟩)
  have H0 := Lib.hid (Below.refl W0.heap.size W0)
  clear hb0 hs0 hh
  subst hW0
  go_enter Tryz.func8, Tryz.ntmps8
  go_wp2_with (first
    | (refine wpList_load_row rfl 37 (.tmp 2) rfl w.heap.size rfl _ _ _ _ (HH.out _ H0.out) huh rfl (HSH.out _) ?_)
    | (refine wpList_load_row rfl 39 (.tmp 3) rfl (w.heap.size + 1) rfl _ _ _ _ (HX.out _ H0.out) huHX rfl HSHX.out ?_)
    | fail)
  refine (HCK.out _ (HBW.out _ H0.out).1).mono ?_
  rintro e w1 ⟨rfl, hb1⟩
  have H1 := Lib.hid hb1
  clear hb1
  by_cases hk : k = 0
  · have HE := Lib.hid hk
    subst hk
    obtain ⟨wB, hwB⟩ : ∃ W, W = w1 := ⟨_, rfl⟩
    have HWB0 := Lib.hid hwB
    have hob := H1.out
    rw [← hwB] at hob
    have HOB := Lib.hid hob
    clear hob
    have HXB : Hid (∀ W, Below wB.heap.size wB W → W.heap[w.heap.size + 1]? = some (.cells #[.string a, .string b, .int .i64 rk] 39 (0, 0))) := Lib.hid (fun W hW => HX.out W (HOB.out.trans (hW.mono HOB.out.size)))
    have HST : Hid (∀ W, Below wB.heap.size wB W → W.cell? ⟨w.heap.size, 5, none⟩ = some (.slice (h.A 5) m (h.c 5)) ∧ W.rangeAt (w.heap.size + 1) 0 [.string a, .string b, .int .i64 rk]) := Lib.hid (fun W hW => ⟨(HLI.out W (HOB.out.trans (hW.mono HOB.out.size))).1, range_cells (HXB.out W hW)⟩)
    have HWB := Lib.hid hwB
    clear hwB
    go_upto_region 4 with fail
    rw [← HWB.out]
    go_wp2_with fail
    refine lastW_region (S := (fun w' => w'.cell? ⟨w.heap.size, 5, none⟩ = some (.slice (h.A 5) (m) (h.c 5)) ∧ w'.rangeAt (w.heap.size + 1) 0 [.string a, .string b, .int .i64 rk])) (n := 6) (by kernel_rfl) ?_
    have ST5 := HST.out _ (Below.refl wB.heap.size wB).drew
    refine LastW.take (i := 1) (v := .pointer (some ⟨w.heap.size, 5, none⟩)) rfl (by kernel_rfl) (by kernel_rfl) (by kernel_rfl) (by kernel_rfl) (by decide) (fun _ _ _ h => h.elim) (.inl ⟨by kernel_rfl, fun w hw => by clear hw; go_simp⟩) ST5 ?_
    (try simp only [Act.put, List.getElem_toArray, List.getElem_cons_succ, List.getElem_cons_zero, List.setIfInBounds_toArray, List.set_cons_zero, List.set_cons_succ])
    refine LastW.take (i := 2) (v := .slice (h.A 5) (m) (h.c 5)) rfl (by kernel_rfl) (by kernel_rfl) (by kernel_rfl) (by kernel_rfl) (by decide) (fun _ _ _ h => h.elim) (.inl ⟨by kernel_rfl, fun w hw => by have hw := hw.1; go_simp⟩) ST5 ?_
    (try simp only [Act.put, List.getElem_toArray, List.getElem_cons_succ, List.getElem_cons_zero, List.setIfInBounds_toArray, List.set_cons_zero, List.set_cons_succ])
    refine LastW.take (i := 3) (v := .agg #[.string a, .string b, .int .i64 rk]) rfl (by kernel_rfl) (by kernel_rfl) (by kernel_rfl) (by kernel_rfl) (by decide) (fun _ _ _ h => h.elim) (yieldsIf_load_mid (by kernel_rfl) 39 (.tmp 3) rfl (w.heap.size + 1) 0 rfl [.string a, .string b, .int .i64 rk] _ (fun w h => h.2) huHX rfl HSHX.out) ST5 ?_
    (try simp only [Act.put, List.getElem_toArray, List.getElem_cons_succ, List.getElem_cons_zero, List.setIfInBounds_toArray, List.set_cons_zero, List.set_cons_succ])
    refine LastW.one (i := 0) (by kernel_rfl) rfl (fun K hK => ?_)
    go_simp
    refine (tabRule_any _).mono ?_
    rintro e w7 ⟨rfl, hb7⟩
    have H7 := Lib.hid ((Below.refl wB.heap.size wB).drew.trans (hb7.mono (Below.refl wB.heap.size wB).drew.size))
    clear hb7
    refine hK.out _ _ (fun _ => HST.out _ H7.out) (fun _ => ?_)
    clear hK K
    (try simp only [Act.put, List.getElem_toArray, List.getElem_cons_succ, List.getElem_cons_zero, List.setIfInBounds_toArray, List.set_cons_zero, List.set_cons_succ])
    have H7W := Lib.hid (HOB.out.trans (H7.out.mono HOB.out.size))
    refine LastW.one (i := 4) (by kernel_rfl) rfl (fun K hK => ?_)
    go_simp
    refine (HPU.out _ (HBW.out _ H7W.out).1).mono ?_
    rintro e w8 ⟨A5, n5, p5, hl5, rfl, hown5, hb8⟩
    have H8 := Lib.hid (H7.out.trans (hb8.mono H7.out.size))
    have H8W := Lib.hid (HOB.out.trans (H8.out.mono HOB.out.size))
    have HO5 := Lib.hid hown5
    have HLE := Lib.hid hl5
    clear hb8 hown5 hl5
    refine hK.out _ _ (fun _ => HST.out _ H8.out) (fun _ => ?_)
    clear hK K
    (try simp only [Act.put, List.getElem_toArray, List.getElem_cons_succ, List.getElem_cons_zero, List.setIfInBounds_toArray, List.set_cons_zero, List.set_cons_succ])
    refine LastW.take (i := 5) (v := .pointer (some ⟨w.heap.size, 5, none⟩)) rfl (by kernel_rfl) (by kernel_rfl) (by kernel_rfl) (by kernel_rfl) (by decide) (fun _ _ _ h => h.elim) (.inl ⟨by kernel_rfl, fun w hw => by clear hw; go_simp⟩) (HST.out _ H8.out) ?_
    (try simp only [Act.put, List.getElem_toArray, List.getElem_cons_succ, List.getElem_cons_zero, List.setIfInBounds_toArray, List.set_cons_zero, List.set_cons_succ])
    refine LastW.one (i := 6) (by kernel_rfl) rfl (fun K hK => ?_)
    have c5 := (HLI.out _ H8W.out).1
    have f5 : w8.frozen? ⟨w.heap.size, 5, none⟩ = false := frozen_of_block (HH.out _ H8W.out)
    have HZ5 := Lib.hid (HZ.out _ H8W.out)
    have HH5 := Lib.hid (HH.out _ H8W.out)
    have HB5 := Lib.hid (HBW.out _ H8W.out)
    go_simp
    refine hK.out _ _ (fun h => absurd rfl h) (fun _ => ?_)
    clear hK K
    (try simp only [Act.put, List.getElem_toArray, List.getElem_cons_succ, List.getElem_cons_zero, List.setIfInBounds_toArray, List.set_cons_zero, List.set_cons_succ])
    refine LastW.done (by kernel_rfl) ?_ _
    refine NoPanic.normal ?_
    have H9 : Hid ((w8.setCell ⟨w.heap.size, 5, none⟩ (.slice A5 n5 p5)).heap[w.heap.size]? = some (.cells (h.set 5 A5 n5 p5).cells 37 (0, 0))) := Lib.hid (by rw [block_setCell HH5.out, h.set_cells _ _ _ 5 (by decide)])
    have HZ6 : Hid ((w8.setCell ⟨w.heap.size, 5, none⟩ (.slice A5 n5 p5)).heap[w.heap.size + 2]? = some (.cells Hs.zero 37 (0, 0))) := Lib.hid ((block_setCell_other (by omega) _).trans HZ5.out)
    have HB6 : Hid (Below w.heap.size w (w8.setCell ⟨w.heap.size, 5, none⟩ (.slice A5 n5 p5))) := Lib.hid (HB5.out.1.setCell (Nat.le_refl _) _)
    have HS4 : Hid (w.heap.size + 2 < w7.heap.size) := Lib.hid (by have := (HBW.out _ H7W.out).2; omega)
    have HO6 : Hid ((w8.setCell ⟨w.heap.size, 5, none⟩ (.slice A5 n5 p5)).ownsRow w7.heap.size 39 3 (.slice A5 n5 p5) n5 l.flatten) := Lib.hid (own_far HO5.out (by have := HS4.out; simp; omega) (Nat.le_refl _))
    generalize w8.setCell ⟨w.heap.size, 5, none⟩ (.slice A5 n5 p5) = w6 at *
    go_wp2_with (first
      | (refine wpList_load_row rfl 37 (.tmp 2) rfl w.heap.size rfl _ _ _ _ H9.out huh rfl (HSH.out _) ?_)
      | (refine wpList_store_row rfl 37 (.tmp 4) (.tmp 20) rfl (w.heap.size + 2) (h.set 5 A5 n5 p5).cells rfl rfl _ _ HZ6.out (HSH.out _) rfl (H1C.out _) ?_)
      | fail)
    exact bodyPost_ret (results_row_tmp rfl _ _ (w.heap.size + 2) _ _ _ _ rfl (setRow_heap _ _ _ _ _ _ HZ6.out) huh rfl (HSH.out _)) rfl ⟨setRow_below HB6.out (by omega) _, .inr ⟨rfl, A5, n5, p5, HLE.out, own_rowed HO6.out HS4.out (by have := HS4.out; omega), rfl⟩⟩
  · have hk0 : ((k : Int) != 0) = true := by simpa using hk
    have HK := Lib.hid hk
    clear hk
    go_wp2_with (first
      | (refine wpList_store_row rfl 37 (.tmp 4) (.tmp 12) rfl (w.heap.size + 2) Hs.zero rfl rfl _ _ (HZ.out _ H1.out) HSQ.out rfl H1Q.out ?_)
      | fail)
    exact bodyPost_ret (results_row_tmp rfl _ _ (w.heap.size + 2) _ _ _ _ rfl (setRow_heap _ _ _ _ _ _ (HZ.out _ H1.out)) huh rfl HSQ.out) rfl ⟨setRow_below (HBW.out _ H1.out).1 (by omega) _, .inl ⟨HK.out, rfl⟩⟩

end Go.Proofs.YtjphjblcahadkaaGreat

namespace Go.Proofs.YtjphjblcahadkaaGreat
set_option linter.unusedVariables false
open Go.RowKit

theorem cons : Cons := ⟨cadd_any, csug_any, csite_any, fun h L s t n w hh _ => cfits_any h L s t n w hh⟩
end Go.Proofs.YtjphjblcahadkaaGreat
