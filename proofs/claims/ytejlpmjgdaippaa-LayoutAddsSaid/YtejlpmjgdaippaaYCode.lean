/-
  CONTRACTS of the code's layout. (By wip/tools/gen_ycode.py.)
-/
import Derived.Test.YtejlpmjgdaippaaCZoneFind
import Derived.Test.YtejlpmjgdaippaaCBinFind
import Derived.Test.YtejlpmjgdaippaaYCon
import Derived.Deep.CutRange
namespace Go.Proofs.Ytejlpmjgdaippaa
set_option linter.unusedVariables false
open Go.RowKit
open Pl (firstG findG putG)

theorem fcZone {h : Hs} {L : Nat → List (List Value)} {w : World} (hh : HT h L w) (s : ByteArray) : Calls Try.prog 64 #[.agg h.cells, .string s] w fun e w' => e = .returned (.tuple #[.agg (gotZone (L 2) s).toArray, .bool (atZone (L 2) s).isSome]) ∧ Below w.heap.size w w' :=
  cfindZone_any h (L 2) s w (hh 2 (by decide)).1 (hh 2 (by decide)).2.1 (hh 2 (by decide)).2.2.1 (hh 2 (by decide)).2.2.2
theorem fcBin {h : Hs} {L : Nat → List (List Value)} {w : World} (hh : HT h L w) (s : ByteArray) : Calls Try.prog 19 #[.agg h.cells, .string s] w fun e w' => e = .returned (.tuple #[.agg (gotBin (L 3) s).toArray, .bool (atBin (L 3) s).isSome]) ∧ Below w.heap.size w w' :=
  cfindBin_any h (L 3) s w (hh 3 (by decide)).1 (hh 3 (by decide)).2.1 (hh 3 (by decide)).2.2.1 (hh 3 (by decide)).2.2.2
theorem name_below (s : ByteArray) (hs : s.size ≤ maxLen) (W : World) : Calls Try.prog 65 #[.string s] W fun e w' => e = .returned (.int .i64 (Pl.nmE s : Nat)) ∧ Below W.heap.size W w' := (name_any s W hs).mono fun e w' ⟨h1, h2⟩ => ⟨h1, by rw [h2]; exact Below.refl _ _⟩

set_option maxRecDepth 100000 in
set_option maxHeartbeats 3200000 in
theorem checkz_any (h : Hs) (L : Nat → List (List Value)) (a b : ByteArray) (w : World) (hh : HT h L w) (hma : a.size ≤ maxLen) (hmb : b.size ≤ maxLen) :
    Calls Try.prog 40 #[.agg h.cells, .agg #[.string a, .string b]] w fun e w' => e = .returned (.int .i64 (addZE (L 2) [.string a, .string b] : Nat)) ∧ Below w.heap.size w w' := by
  obtain ⟨ga, gb, hg, _⟩ := zone_two hh a
  have HFZ := Lib.hid (fun W (hW : Below w.heap.size w W) => fcZone (hh.below hW) a)
  have HN1 := Lib.hid (name_below a hma)
  have HN2 := Lib.hid (name_below b hmb)
  have hn9 := (hh 2 (by decide)).2.1
  obtain ⟨il, hil⟩ : ∃ q, (atZone (L 2) a).isSome = q := ⟨_, rfl⟩
  obtain ⟨k1, hk1⟩ : ∃ k, Pl.nmE a = k := ⟨_, rfl⟩
  obtain ⟨k2, hk2⟩ : ∃ k, Pl.nmE b = k := ⟨_, rfl⟩
  obtain ⟨er, her⟩ : ∃ r, addZE (L 2) [.string a, .string b] = r := ⟨_, rfl⟩
  have HA : Hid (er = addZB k1 k2 il (h.n 2)) := Lib.hid (by
    rw [← her]
    unfold addZE addZB
    rw [show codeOf [.string a, .string b] = a from rfl, show siteZ [.string a, .string b] = b from rfl, hil, hk1, hk2, (hh 2 (by decide)).1])
  rw [hg, hil] at HFZ
  rw [hk1] at HN1
  rw [hk2] at HN2
  rw [her]
  obtain ⟨m, hmm⟩ : ∃ m, h.n 2 = m := ⟨_, rfl⟩
  rw [hmm] at HA hn9
  have HMM := Lib.hid hmm
  clear hil hk1 hk2 hg hma hmb hmm her
  obtain ⟨W0, hW0⟩ : ∃ W0, W0 = ((w.alloc (.cells h.cells 37)).alloc (.cells #[.string a, .string b] 39)) := ⟨_, rfl⟩
  have hb0 : Below w.heap.size w W0 := by rw [hW0]; exact ((Below.refl _ _).alloc (Nat.le_refl _) _).alloc (by simp <;> omega) _
  have hs0 : W0.heap.size = w.heap.size + 2 := by rw [hW0]; simp
  have HH : Hid (∀ W, Below W0.heap.size W0 W → W.heap[w.heap.size]? = some (.cells h.cells 37 (0, 0))) := Lib.hid (fun W hW => (hW.block _ (by omega)).trans (by
    rw [hW0]
    have hq := heap_alloc_new w (.cells h.cells 37)
    exact (Below.heap_alloc _ _ _ (by simp <;> omega)).trans ((by simpa using hq))))
  have HX : Hid (∀ W, Below W0.heap.size W0 W → W.heap[w.heap.size + 1]? = some (.cells #[.string a, .string b] 39 (0, 0))) := Lib.hid (fun W hW => (hW.block _ (by omega)).trans (by
    rw [hW0]
    have hq := heap_alloc_new (w.alloc (.cells h.cells 37)) (.cells #[.string a, .string b] 39)
    exact (by simpa using hq)))
  have HBW : Hid (∀ W, Below W0.heap.size W0 W → Below w.heap.size w W ∧ w.heap.size + 2 ≤ W.heap.size) := Lib.hid (fun W hW => ⟨hb0.trans (hW.mono (by omega)), by have := hW.size; omega⟩)
  have huh := Try.underlying37
  have HSH : Hid (∀ a : Hs, (Try.prog.info? 37).map (·.size) = some a.cells.size) := Lib.hid (fun a => by kernel_rfl)
  have huHX := Try.underlying39
  have HSHX : Hid ((Try.prog.info? 39).map (·.size) = some 2) := Lib.hid (by kernel_rfl)
  have HCHX : Hid (∀ W, Below W0.heap.size W0 W → W.cell? ⟨w.heap.size + 1, 0, none⟩ = some (.string a) ∧ W.cell? ⟨w.heap.size + 1, 1, none⟩ = some (.string b) ∧ w.heap.size + 1 < W.heap.size) := Lib.hid (fun W hW => ⟨by rw [cell_of_block (HX.out W hW)]; rfl, by rw [cell_of_block (HX.out W hW)]; rfl, by have := hW.size; omega⟩)
  have HL2 : Hid (∀ W, Below W0.heap.size W0 W → W.cell? ⟨w.heap.size, 2, none⟩ = some (.slice (h.A 2) m (h.c 2)) ∧ w.heap.size < W.heap.size) := Lib.hid (fun W hW => ⟨by rw [cell_of_block (HH.out W hW), ← HMM.out]; rfl, by have := hW.size; omega⟩)
  have hc0 := HCHX.out _ (Below.refl _ _)
  obtain ⟨hx0, hx1, hlthx⟩ := hc0
  have H0 := Lib.hid (Below.refl W0.heap.size W0)
  clear hb0 hs0 hh
  subst hW0
  go_enter Try.func40, Try.ntmps40
  go_wp2_with fail
  refine (HN1.out _).mono ?_
  rintro e w1 ⟨rfl, hb1⟩
  have H1 := Lib.hid (H0.out.trans (hb1.mono H0.out.size))
  clear hb1
  clear hx0 hx1 hlthx
  obtain ⟨hx0, hx1, hlthx⟩ := HCHX.out _ H1.out
  by_cases hk : k1 = 0
  · subst hk
    go_wp2_with fail
    refine (HN2.out _).mono ?_
    rintro e w2 ⟨rfl, hb2⟩
    have H2 := Lib.hid (H1.out.trans (hb2.mono H1.out.size))
    clear hb2
    clear hx0 hx1 hlthx
    obtain ⟨hx0, hx1, hlthx⟩ := HCHX.out _ H2.out
    by_cases hk2 : k2 = 0
    · subst hk2
      go_wp2_with (first
        | (refine wpList_load_row rfl 37 (.tmp 2) rfl w.heap.size rfl _ _ _ _ (HH.out _ H2.out) huh rfl (HSH.out _) ?_)
        | fail)
      refine (HFZ.out _ (HBW.out _ H2.out).1).mono ?_
      rintro e w3 ⟨rfl, hb3⟩
      have H4 := Lib.hid (H2.out.trans (hb3.mono H2.out.size))
      clear hb3
      have H5 := Lib.hid (H4.out.alloc H4.out.size (.cells #[.string ga, .string gb] 39))
      clear hx0 hx1 hlthx
      obtain ⟨hl2, hll⟩ := HL2.out _ H5.out
      cases il with
      | true =>
        have HE : Hid (er = 11) := Lib.hid (by rw [HA.out]; rfl)
        go_wp2_with fail
        go_ret
        exact ⟨by rw [HE.out]; rfl, (HBW.out _ H5.out).1⟩
      | false =>
        by_cases h16 : 16 ≤ m
        · have HE : Hid (er = 14) := Lib.hid (by rw [HA.out]; simp [addZB, h16])
          go_wp2_with fail
          go_ret
          exact ⟨by rw [HE.out]; rfl, (HBW.out _ H5.out).1⟩
        · have HE : Hid (er = 0) := Lib.hid (by rw [HA.out]; simp [addZB, h16])
          go_wp2_with fail
          go_ret
          exact ⟨by rw [HE.out]; rfl, (HBW.out _ H5.out).1⟩
    · have hk0 : ((k2 : Int) != 0) = true := by simpa using hk2
      have HE : Hid (er = k2) := Lib.hid (by rw [HA.out]; simp [addZB, hk2])
      clear hk2
      go_wp2_with fail
      go_ret
      exact ⟨by rw [HE.out]; rfl, (HBW.out _ H2.out).1⟩
  · have hk0 : ((k1 : Int) != 0) = true := by simpa using hk
    have HE : Hid (er = k1) := Lib.hid (by rw [HA.out]; simp [addZB, hk])
    clear hk
    go_wp2_with fail
    go_ret
    exact ⟨by rw [HE.out]; rfl, (HBW.out _ H1.out).1⟩

theorem crange_any (n hi : Int) (w : World) : Calls Try.prog 86 #[.int .i64 n, .int .i64 hi] w fun e w' => e = .returned (.bool (decide (0 ≤ n) && decide (n ≤ hi))) ∧ w' = w := by
  by_cases h1 : 0 ≤ n
  · by_cases h2 : n ≤ hi
    · go_enter Try.func86, Try.ntmps86
      go_wp2
      go_ret
      simp [h2]; omega
    · go_enter Try.func86, Try.ntmps86
      go_wp2
      go_ret
      simp; omega
  · go_enter Try.func86, Try.ntmps86
    go_wp2
    go_ret
    simp
    intro h; omega

/-- What is wrong with what a bin says of itself. -/
def formE (x : Bn) : Nat := if x.kind < 1 ∨ 4 < x.kind then 23 else if x.out = true then 5 else if x.frz = true then 13 else 0
theorem addBE_form (LZ LB : List (List Value)) (x : Bn) : addBE LZ LB x = if Pl.nmE x.code ≠ 0 then Pl.nmE x.code else if (atZone LZ x.zone).isSome = false then 12 else if formE x ≠ 0 then formE x else if (atBin LB x.code).isSome = true then 11 else if 64 ≤ LB.length then 15 else 0 := by
  unfold addBE formE
  split
  · rfl
  split
  · rfl
  by_cases h1 : x.kind < 1 ∨ 4 < x.kind
  · simp [h1]
  by_cases h2 : x.out = true
  · simp [h1, h2]
  by_cases h3 : x.frz = true
  · simp [h1, h2, h3]
  · simp [h1, h2, h3]

set_option maxRecDepth 100000 in
set_option maxHeartbeats 3200000 in
theorem cform_any (xc xz : ByteArray) (kd ai pl vo we : Int) (fz : Bool) (w : World) :
    Calls Try.prog 74 #[.agg #[.string xc, .string xz, .int .i64 kd, .int .i64 ai, .int .i64 pl, .int .i64 vo, .int .i64 we, .bool fz]] w fun e w' => e = .returned (.int .i64 (formE (Bn.mk xc xz kd ai pl vo we fz) : Nat)) ∧ Below w.heap.size w w' := by
  obtain ⟨r1, hr1⟩ : ∃ r, (decide (0 ≤ ai) && decide (ai ≤ 999)) = r := ⟨_, rfl⟩
  obtain ⟨r2, hr2⟩ : ∃ r, (decide (0 ≤ pl) && decide (pl ≤ 999)) = r := ⟨_, rfl⟩
  obtain ⟨r3, hr3⟩ : ∃ r, (decide (0 ≤ vo) && decide (vo ≤ 1000000000000)) = r := ⟨_, rfl⟩
  obtain ⟨r4, hr4⟩ : ∃ r, (decide (0 ≤ we) && decide (we ≤ 1000000000000)) = r := ⟨_, rfl⟩
  obtain ⟨er, her⟩ : ∃ r, formE (Bn.mk xc xz kd ai pl vo we fz) = r := ⟨_, rfl⟩
  have hout : Bn.out (Bn.mk xc xz kd ai pl vo we fz) = !(r1 && r2 && r3 && r4) := by
    rw [← hr1, ← hr2, ← hr3, ← hr4]
    unfold Bn.out
    simp only []
    rw [Bool.eq_iff_iff]
    simp
    omega
  have HA : Hid (er = if kd < 1 ∨ 4 < kd then 23 else if (!(r1 && r2 && r3 && r4)) = true then 5 else if fz = true then 13 else 0) := Lib.hid (by rw [← her, ← hout]; rfl)
  have HR1 := Lib.hid hr1
  have HR2 := Lib.hid hr2
  have HR3 := Lib.hid hr3
  have HR4 := Lib.hid hr4
  rw [her]
  clear hr1 hr2 hr3 hr4 hout her
  have HB := Lib.hid ((Below.refl _ w).alloc (Nat.le_refl _) (.cells #[.string xc, .string xz, .int .i64 kd, .int .i64 ai, .int .i64 pl, .int .i64 vo, .int .i64 we, .bool fz] 41))
  rcases Classical.em (kd = 1) with q1 | q1
  ·
    subst q1
    go_enter Try.func74, Try.ntmps74
    go_wp2_with fail
    refine (crange_any _ _ _).mono ?_
    rintro e w2 ⟨rfl, rfl⟩
    rw [HR1.out]
    cases r1 with
    | false =>
      have he : er = 5 := by rw [HA.out]; simp
      go_wp2_with fail
      go_ret
      exact ⟨by rw [he]; rfl, HB.out⟩
    | true =>
      go_wp2_with fail
      refine (crange_any _ _ _).mono ?_
      rintro e w3 ⟨rfl, rfl⟩
      rw [HR2.out]
      cases r2 with
      | false =>
        have he : er = 5 := by rw [HA.out]; simp
        go_wp2_with fail
        go_ret
        exact ⟨by rw [he]; rfl, HB.out⟩
      | true =>
        go_wp2_with fail
        refine (crange_any _ _ _).mono ?_
        rintro e w4 ⟨rfl, rfl⟩
        rw [HR3.out]
        cases r3 with
        | false =>
          have he : er = 5 := by rw [HA.out]; simp
          go_wp2_with fail
          go_ret
          exact ⟨by rw [he]; rfl, HB.out⟩
        | true =>
          go_wp2_with fail
          refine (crange_any _ _ _).mono ?_
          rintro e w5 ⟨rfl, rfl⟩
          rw [HR4.out]
          cases r4 with
          | false =>
            have he : er = 5 := by rw [HA.out]; simp
            go_wp2_with fail
            go_ret
            exact ⟨by rw [he]; rfl, HB.out⟩
          | true =>
            cases fz with
            | false =>
              have he : er = 0 := by rw [HA.out]; simp
              go_wp2_with fail
              go_ret
              exact ⟨by rw [he]; rfl, HB.out⟩
            | true =>
              have he : er = 13 := by rw [HA.out]; simp
              go_wp2_with fail
              go_ret
              exact ⟨by rw [he]; rfl, HB.out⟩
  rcases Classical.em (kd = 2) with q2 | q2
  ·
    subst q2
    go_enter Try.func74, Try.ntmps74
    go_wp2_with fail
    refine (crange_any _ _ _).mono ?_
    rintro e w2 ⟨rfl, rfl⟩
    rw [HR1.out]
    cases r1 with
    | false =>
      have he : er = 5 := by rw [HA.out]; simp
      go_wp2_with fail
      go_ret
      exact ⟨by rw [he]; rfl, HB.out⟩
    | true =>
      go_wp2_with fail
      refine (crange_any _ _ _).mono ?_
      rintro e w3 ⟨rfl, rfl⟩
      rw [HR2.out]
      cases r2 with
      | false =>
        have he : er = 5 := by rw [HA.out]; simp
        go_wp2_with fail
        go_ret
        exact ⟨by rw [he]; rfl, HB.out⟩
      | true =>
        go_wp2_with fail
        refine (crange_any _ _ _).mono ?_
        rintro e w4 ⟨rfl, rfl⟩
        rw [HR3.out]
        cases r3 with
        | false =>
          have he : er = 5 := by rw [HA.out]; simp
          go_wp2_with fail
          go_ret
          exact ⟨by rw [he]; rfl, HB.out⟩
        | true =>
          go_wp2_with fail
          refine (crange_any _ _ _).mono ?_
          rintro e w5 ⟨rfl, rfl⟩
          rw [HR4.out]
          cases r4 with
          | false =>
            have he : er = 5 := by rw [HA.out]; simp
            go_wp2_with fail
            go_ret
            exact ⟨by rw [he]; rfl, HB.out⟩
          | true =>
            cases fz with
            | false =>
              have he : er = 0 := by rw [HA.out]; simp
              go_wp2_with fail
              go_ret
              exact ⟨by rw [he]; rfl, HB.out⟩
            | true =>
              have he : er = 13 := by rw [HA.out]; simp
              go_wp2_with fail
              go_ret
              exact ⟨by rw [he]; rfl, HB.out⟩
  rcases Classical.em (kd = 3) with q3 | q3
  ·
    subst q3
    go_enter Try.func74, Try.ntmps74
    go_wp2_with fail
    refine (crange_any _ _ _).mono ?_
    rintro e w2 ⟨rfl, rfl⟩
    rw [HR1.out]
    cases r1 with
    | false =>
      have he : er = 5 := by rw [HA.out]; simp
      go_wp2_with fail
      go_ret
      exact ⟨by rw [he]; rfl, HB.out⟩
    | true =>
      go_wp2_with fail
      refine (crange_any _ _ _).mono ?_
      rintro e w3 ⟨rfl, rfl⟩
      rw [HR2.out]
      cases r2 with
      | false =>
        have he : er = 5 := by rw [HA.out]; simp
        go_wp2_with fail
        go_ret
        exact ⟨by rw [he]; rfl, HB.out⟩
      | true =>
        go_wp2_with fail
        refine (crange_any _ _ _).mono ?_
        rintro e w4 ⟨rfl, rfl⟩
        rw [HR3.out]
        cases r3 with
        | false =>
          have he : er = 5 := by rw [HA.out]; simp
          go_wp2_with fail
          go_ret
          exact ⟨by rw [he]; rfl, HB.out⟩
        | true =>
          go_wp2_with fail
          refine (crange_any _ _ _).mono ?_
          rintro e w5 ⟨rfl, rfl⟩
          rw [HR4.out]
          cases r4 with
          | false =>
            have he : er = 5 := by rw [HA.out]; simp
            go_wp2_with fail
            go_ret
            exact ⟨by rw [he]; rfl, HB.out⟩
          | true =>
            cases fz with
            | false =>
              have he : er = 0 := by rw [HA.out]; simp
              go_wp2_with fail
              go_ret
              exact ⟨by rw [he]; rfl, HB.out⟩
            | true =>
              have he : er = 13 := by rw [HA.out]; simp
              go_wp2_with fail
              go_ret
              exact ⟨by rw [he]; rfl, HB.out⟩
  rcases Classical.em (kd = 4) with q4 | q4
  ·
    subst q4
    go_enter Try.func74, Try.ntmps74
    go_wp2_with fail
    refine (crange_any _ _ _).mono ?_
    rintro e w2 ⟨rfl, rfl⟩
    rw [HR1.out]
    cases r1 with
    | false =>
      have he : er = 5 := by rw [HA.out]; simp
      go_wp2_with fail
      go_ret
      exact ⟨by rw [he]; rfl, HB.out⟩
    | true =>
      go_wp2_with fail
      refine (crange_any _ _ _).mono ?_
      rintro e w3 ⟨rfl, rfl⟩
      rw [HR2.out]
      cases r2 with
      | false =>
        have he : er = 5 := by rw [HA.out]; simp
        go_wp2_with fail
        go_ret
        exact ⟨by rw [he]; rfl, HB.out⟩
      | true =>
        go_wp2_with fail
        refine (crange_any _ _ _).mono ?_
        rintro e w4 ⟨rfl, rfl⟩
        rw [HR3.out]
        cases r3 with
        | false =>
          have he : er = 5 := by rw [HA.out]; simp
          go_wp2_with fail
          go_ret
          exact ⟨by rw [he]; rfl, HB.out⟩
        | true =>
          go_wp2_with fail
          refine (crange_any _ _ _).mono ?_
          rintro e w5 ⟨rfl, rfl⟩
          rw [HR4.out]
          cases r4 with
          | false =>
            have he : er = 5 := by rw [HA.out]; simp
            go_wp2_with fail
            go_ret
            exact ⟨by rw [he]; rfl, HB.out⟩
          | true =>
            cases fz with
            | false =>
              have he : er = 0 := by rw [HA.out]; simp
              go_wp2_with fail
              go_ret
              exact ⟨by rw [he]; rfl, HB.out⟩
            | true =>
              have he : er = 13 := by rw [HA.out]; simp
              go_wp2_with fail
              go_ret
              exact ⟨by rw [he]; rfl, HB.out⟩
  have he : er = 23 := by rw [HA.out]; rw [if_pos (by omega)]
  have p1 : (kd == 1) = false := by simpa using q1
  have p2 : (kd == 2) = false := by simpa using q2
  have p3 : (kd == 3) = false := by simpa using q3
  have p4 : (kd == 4) = false := by simpa using q4
  go_enter Try.func74, Try.ntmps74
  go_wp2_with fail
  go_ret
  exact ⟨by rw [he]; rfl, HB.out⟩

set_option maxRecDepth 100000 in
set_option maxHeartbeats 3200000 in
theorem checkb_any (h : Hs) (L : Nat → List (List Value)) (xc xz : ByteArray) (kd ai pl vo we : Int) (fz : Bool) (w : World) (hh : HT h L w) (hm : xc.size ≤ maxLen) :
    Calls Try.prog 45 #[.agg h.cells, .agg #[.string xc, .string xz, .int .i64 kd, .int .i64 ai, .int .i64 pl, .int .i64 vo, .int .i64 we, .bool fz]] w fun e w' => e = .returned (.int .i64 (addBE (L 2) (L 3) (Bn.mk xc xz kd ai pl vo we fz) : Nat)) ∧ Below w.heap.size w w' := by
  obtain ⟨ga, gb, hg, _⟩ := zone_two hh xz
  obtain ⟨y, hy, _⟩ := bin_eight hh xc
  unfold Bn.cells at hy
  have hn9 := (hh 3 (by decide)).2.1
  have HFZ := Lib.hid (fun W (hW : Below w.heap.size w W) => fcZone (hh.below hW) xz)
  have HFB := Lib.hid (fun W (hW : Below w.heap.size w W) => fcBin (hh.below hW) xc)
  have HN1 := Lib.hid (name_below xc hm)
  have HFO := Lib.hid (fun W => cform_any xc xz kd ai pl vo we fz W)
  obtain ⟨iz, hiz⟩ : ∃ q, (atZone (L 2) xz).isSome = q := ⟨_, rfl⟩
  obtain ⟨il, hil⟩ : ∃ q, (atBin (L 3) xc).isSome = q := ⟨_, rfl⟩
  obtain ⟨k1, hk1⟩ : ∃ k, Pl.nmE xc = k := ⟨_, rfl⟩
  obtain ⟨k2, hk2⟩ : ∃ k, formE (Bn.mk xc xz kd ai pl vo we fz) = k := ⟨_, rfl⟩
  obtain ⟨er, her⟩ : ∃ r, addBE (L 2) (L 3) (Bn.mk xc xz kd ai pl vo we fz) = r := ⟨_, rfl⟩
  have HA : Hid (er = if k1 ≠ 0 then k1 else if iz = false then 12 else if k2 ≠ 0 then k2 else if il = true then 11 else if 64 ≤ h.n 3 then 15 else 0) := Lib.hid (by
    rw [← her, addBE_form]
    simp only []
    rw [hiz, hil, hk1, hk2, (hh 3 (by decide)).1])
  rw [hg, hiz] at HFZ
  rw [hy, hil] at HFB
  rw [hk1] at HN1
  rw [hk2] at HFO
  rw [her]
  obtain ⟨m, hmm⟩ : ∃ m, h.n 3 = m := ⟨_, rfl⟩
  rw [hmm] at HA hn9
  have HMM := Lib.hid hmm
  clear hil hiz hk1 hk2 hg hy hm hmm her
  obtain ⟨W0, hW0⟩ : ∃ W0, W0 = ((w.alloc (.cells h.cells 37)).alloc (.cells #[.string xc, .string xz, .int .i64 kd, .int .i64 ai, .int .i64 pl, .int .i64 vo, .int .i64 we, .bool fz] 41)) := ⟨_, rfl⟩
  have hb0 : Below w.heap.size w W0 := by rw [hW0]; exact ((Below.refl _ _).alloc (Nat.le_refl _) _).alloc (by simp <;> omega) _
  have hs0 : W0.heap.size = w.heap.size + 2 := by rw [hW0]; simp
  have HH : Hid (∀ W, Below W0.heap.size W0 W → W.heap[w.heap.size]? = some (.cells h.cells 37 (0, 0))) := Lib.hid (fun W hW => (hW.block _ (by omega)).trans (by
    rw [hW0]
    have hq := heap_alloc_new w (.cells h.cells 37)
    exact (Below.heap_alloc _ _ _ (by simp <;> omega)).trans ((by simpa using hq))))
  have HX : Hid (∀ W, Below W0.heap.size W0 W → W.heap[w.heap.size + 1]? = some (.cells #[.string xc, .string xz, .int .i64 kd, .int .i64 ai, .int .i64 pl, .int .i64 vo, .int .i64 we, .bool fz] 41 (0, 0))) := Lib.hid (fun W hW => (hW.block _ (by omega)).trans (by
    rw [hW0]
    have hq := heap_alloc_new (w.alloc (.cells h.cells 37)) (.cells #[.string xc, .string xz, .int .i64 kd, .int .i64 ai, .int .i64 pl, .int .i64 vo, .int .i64 we, .bool fz] 41)
    exact (by simpa using hq)))
  have HBW : Hid (∀ W, Below W0.heap.size W0 W → Below w.heap.size w W ∧ w.heap.size + 2 ≤ W.heap.size) := Lib.hid (fun W hW => ⟨hb0.trans (hW.mono (by omega)), by have := hW.size; omega⟩)
  have huh := Try.underlying37
  have HSH : Hid (∀ a : Hs, (Try.prog.info? 37).map (·.size) = some a.cells.size) := Lib.hid (fun a => by kernel_rfl)
  have huHX := Try.underlying41
  have HSHX : Hid ((Try.prog.info? 41).map (·.size) = some 8) := Lib.hid (by kernel_rfl)
  have HCHX : Hid (∀ W, Below W0.heap.size W0 W → W.cell? ⟨w.heap.size + 1, 0, none⟩ = some (.string xc) ∧ W.cell? ⟨w.heap.size + 1, 1, none⟩ = some (.string xz) ∧ W.cell? ⟨w.heap.size + 1, 2, none⟩ = some (.int .i64 kd) ∧ W.cell? ⟨w.heap.size + 1, 3, none⟩ = some (.int .i64 ai) ∧ W.cell? ⟨w.heap.size + 1, 4, none⟩ = some (.int .i64 pl) ∧ W.cell? ⟨w.heap.size + 1, 5, none⟩ = some (.int .i64 vo) ∧ W.cell? ⟨w.heap.size + 1, 6, none⟩ = some (.int .i64 we) ∧ W.cell? ⟨w.heap.size + 1, 7, none⟩ = some (.bool fz) ∧ w.heap.size + 1 < W.heap.size) := Lib.hid (fun W hW => ⟨by rw [cell_of_block (HX.out W hW)]; rfl, by rw [cell_of_block (HX.out W hW)]; rfl, by rw [cell_of_block (HX.out W hW)]; rfl, by rw [cell_of_block (HX.out W hW)]; rfl, by rw [cell_of_block (HX.out W hW)]; rfl, by rw [cell_of_block (HX.out W hW)]; rfl, by rw [cell_of_block (HX.out W hW)]; rfl, by rw [cell_of_block (HX.out W hW)]; rfl, by have := hW.size; omega⟩)
  have HL3 : Hid (∀ W, Below W0.heap.size W0 W → W.cell? ⟨w.heap.size, 3, none⟩ = some (.slice (h.A 3) m (h.c 3)) ∧ w.heap.size < W.heap.size) := Lib.hid (fun W hW => ⟨by rw [cell_of_block (HH.out W hW), ← HMM.out]; rfl, by have := hW.size; omega⟩)
  have hc0 := HCHX.out _ (Below.refl _ _)
  obtain ⟨hx0, hx1, hx2, hx3, hx4, hx5, hx6, hx7, hlthx⟩ := hc0
  have H0 := Lib.hid (Below.refl W0.heap.size W0)
  clear hb0 hs0 hh
  subst hW0
  go_enter Try.func45, Try.ntmps45
  go_wp2_with fail
  refine (HN1.out _).mono ?_
  rintro e w1 ⟨rfl, hb1⟩
  have H1 := Lib.hid (H0.out.trans (hb1.mono H0.out.size))
  clear hb1
  clear hx0 hx1 hx2 hx3 hx4 hx5 hx6 hx7 hlthx
  obtain ⟨hx0, hx1, hx2, hx3, hx4, hx5, hx6, hx7, hlthx⟩ := HCHX.out _ H1.out
  by_cases hk : k1 = 0
  · subst hk
    go_wp2_with (first
      | (refine wpList_load_row rfl 37 (.tmp 2) rfl w.heap.size rfl _ _ _ _ (HH.out _ H1.out) huh rfl (HSH.out _) ?_)
      | fail)
    refine (HFZ.out _ (HBW.out _ H1.out).1).mono ?_
    rintro e w3 ⟨rfl, hb3⟩
    have H4 := Lib.hid (H1.out.trans (hb3.mono H1.out.size))
    clear hb3
    have H5 := Lib.hid (H4.out.alloc H4.out.size (.cells #[.string ga, .string gb] 39))
    clear hx0 hx1 hx2 hx3 hx4 hx5 hx6 hx7 hlthx
    cases iz with
    | false =>
      have HE : Hid (er = 12) := Lib.hid (by rw [HA.out]; rfl)
      go_wp2_with fail
      go_ret
      exact ⟨by rw [HE.out]; rfl, (HBW.out _ H5.out).1⟩
    | true =>
      go_wp2_with (first
        | (refine wpList_load_row rfl 41 (.tmp 3) rfl (w.heap.size + 1) rfl _ _ _ _ (HX.out _ H5.out) huHX rfl HSHX.out ?_)
        | fail)
      refine (HFO.out _).mono ?_
      rintro e w5 ⟨rfl, hb5⟩
      have H6 := Lib.hid (H5.out.trans (hb5.mono H5.out.size))
      clear hb5
      by_cases hk2 : k2 = 0
      · subst hk2
        obtain ⟨hx0, hx1, hx2, hx3, hx4, hx5, hx6, hx7, hlthx⟩ := HCHX.out _ H6.out
        go_wp2_with (first
          | (refine wpList_load_row rfl 37 (.tmp 2) rfl w.heap.size rfl _ _ _ _ (HH.out _ H6.out) huh rfl (HSH.out _) ?_)
          | fail)
        refine (HFB.out _ (HBW.out _ H6.out).1).mono ?_
        rintro e w4 ⟨rfl, hb4⟩
        have H7 := Lib.hid (H6.out.trans (hb4.mono H6.out.size))
        clear hb4
        have H8 := Lib.hid (H7.out.alloc H7.out.size (.cells #[.string y.code, .string y.zone, .int .i64 y.kind, .int .i64 y.aisle, .int .i64 y.place, .int .i64 y.vol, .int .i64 y.wei, .bool y.frz] 41))
        clear hx0 hx1 hx2 hx3 hx4 hx5 hx6 hx7 hlthx
        obtain ⟨hl3, hll⟩ := HL3.out _ H8.out
        cases il with
        | true =>
          have HE : Hid (er = 11) := Lib.hid (by rw [HA.out]; rfl)
          go_wp2_with fail
          go_ret
          exact ⟨by rw [HE.out]; rfl, (HBW.out _ H8.out).1⟩
        | false =>
          by_cases h64 : 64 ≤ m
          · have HE : Hid (er = 15) := Lib.hid (by rw [HA.out]; simp [h64])
            go_wp2_with fail
            go_ret
            exact ⟨by rw [HE.out]; rfl, (HBW.out _ H8.out).1⟩
          · have HE : Hid (er = 0) := Lib.hid (by rw [HA.out]; simp [h64])
            go_wp2_with fail
            go_ret
            exact ⟨by rw [HE.out]; rfl, (HBW.out _ H8.out).1⟩
      · have hk0 : ((k2 : Int) != 0) = true := by simpa using hk2
        have HE : Hid (er = k2) := Lib.hid (by rw [HA.out]; simp [hk2])
        clear hk2
        go_wp2_with fail
        go_ret
        exact ⟨by rw [HE.out]; rfl, (HBW.out _ H6.out).1⟩
  · have hk0 : ((k1 : Int) != 0) = true := by simpa using hk
    have HE : Hid (er = k1) := Lib.hid (by rw [HA.out]; simp [hk])
    clear hk
    go_wp2_with fail
    go_ret
    exact ⟨by rw [HE.out]; rfl, (HBW.out _ H1.out).1⟩

set_option maxRecDepth 100000 in
set_option maxHeartbeats 3200000 in
theorem caddz_any (h : Hs) (L : Nat → List (List Value)) (a b : ByteArray) (w : World) (hh : HT h L w) (hn1 : h.n 2 ≤ 1000) (hc1 : h.n 2 ≤ h.c 2 ∧ h.c 2 ≤ 9223372036854775807) (hma : a.size ≤ maxLen) (hmb : b.size ≤ maxLen) :
    Calls Try.prog 13 #[.agg h.cells, .agg #[.string a, .string b]] w (PutP 39 2 2 (addZE (L 2) [.string a, .string b]) (putG ordZone (L 2) [.string a, .string b]) h w) := by
  have HCK := Lib.hid (fun W (hW : Below w.heap.size w W) => checkz_any h L a b W (hh.below hW) hma hmb)
  have HPU := Lib.hid (fun W (hW : Below w.heap.size w W) => putZone (h.A 2) (h.n 2) (h.c 2) 66 #[] ordZone [.string a, .string b] (L 2) W (hh 2 (by decide)).1 hc1.1 hc1.2 (by omega) (hh 2 (by decide)).2.2.1 (zone_fits _ _) ((hh.below hW) 2 (by decide)).2.2.2 (tellsZone W))
  obtain ⟨l, hl⟩ : ∃ l, putG ordZone (L 2) [.string a, .string b] = l := ⟨_, rfl⟩
  have hl2 : putG ordZone (L 2) [.string a, .string b] = l := hl
  obtain ⟨m, hmm⟩ : ∃ m, h.n 2 = m := ⟨_, rfl⟩
  obtain ⟨k, hk⟩ : ∃ k, addZE (L 2) [.string a, .string b] = k := ⟨_, rfl⟩
  rw [hl, hmm] at HPU
  rw [hmm] at hn1
  rw [hk] at HCK
  rw [hl2, hk]
  have HMM := Lib.hid hmm
  clear hl hl2 hmm hk hma hmb
  obtain ⟨W0, hW0⟩ : ∃ W0, W0 = (((w.alloc (.cells h.cells 37)).alloc (.cells #[.string a, .string b] 39)).alloc (.cells #[.slice none 0 0, .slice none 0 0, .slice none 0 0, .slice none 0 0, .slice none 0 0, .slice none 0 0, .slice none 0 0, .slice none 0 0, .slice none 0 0, .slice none 0 0, .slice none 0 0, .slice none 0 0, .slice none 0 0, .slice none 0 0, .int .i64 0] 37)) := ⟨_, rfl⟩
  have hb0 : Below w.heap.size w W0 := by rw [hW0]; exact (((Below.refl _ _).alloc (Nat.le_refl _) _).alloc (by simp <;> omega) _).alloc (by simp <;> omega) _
  have hs0 : W0.heap.size = w.heap.size + 3 := by rw [hW0]; simp
  have HH : Hid (∀ W, Below W0.heap.size W0 W → W.heap[w.heap.size]? = some (.cells h.cells 37 (0, 0))) := Lib.hid (fun W hW => (hW.block _ (by omega)).trans (by
    rw [hW0]
    have hq := heap_alloc_new w (.cells h.cells 37)
    exact (Below.heap_alloc _ _ _ (by simp <;> omega)).trans ((Below.heap_alloc _ _ _ (by simp <;> omega)).trans ((by simpa using hq)))))
  have HX : Hid (∀ W, Below W0.heap.size W0 W → W.heap[w.heap.size + 1]? = some (.cells #[.string a, .string b] 39 (0, 0))) := Lib.hid (fun W hW => (hW.block _ (by omega)).trans (by
    rw [hW0]
    have hq := heap_alloc_new (w.alloc (.cells h.cells 37)) (.cells #[.string a, .string b] 39)
    exact (Below.heap_alloc _ _ _ (by simp <;> omega)).trans ((by simpa using hq))))
  have HZ : Hid (∀ W, Below W0.heap.size W0 W → W.heap[w.heap.size + 2]? = some (.cells Hs.zero 37 (0, 0))) := Lib.hid (fun W hW => (hW.block _ (by omega)).trans (by
    rw [hW0]
    have hq := heap_alloc_new ((w.alloc (.cells h.cells 37)).alloc (.cells #[.string a, .string b] 39)) (.cells #[.slice none 0 0, .slice none 0 0, .slice none 0 0, .slice none 0 0, .slice none 0 0, .slice none 0 0, .slice none 0 0, .slice none 0 0, .slice none 0 0, .slice none 0 0, .slice none 0 0, .slice none 0 0, .slice none 0 0, .slice none 0 0, .int .i64 0] 37)
    exact (by simpa [Hs.zero] using hq)))
  have HBW : Hid (∀ W, Below W0.heap.size W0 W → Below w.heap.size w W ∧ w.heap.size + 3 ≤ W.heap.size) := Lib.hid (fun W hW => ⟨hb0.trans (hW.mono (by omega)), by have := hW.size; omega⟩)
  have huh := Try.underlying37
  have HSH : Hid (∀ a : Hs, (Try.prog.info? 37).map (·.size) = some a.cells.size) := Lib.hid (fun a => by kernel_rfl)
  have HSQ : Hid ((Try.prog.info? 37).map (·.size) = some Hs.zero.size) := Lib.hid (by kernel_rfl)
  have H1C : Hid (∀ a : Hs, a.cells.all (·.oneCell') = true) := Lib.hid (fun a => by simp [Hs.cells, Value.oneCell'])
  have H1Q : Hid (Hs.zero.all (·.oneCell') = true) := Lib.hid (by simp [Hs.zero, Value.oneCell'])
  have huHX := Try.underlying39
  have HSHX : Hid ((Try.prog.info? 39).map (·.size) = some 2) := Lib.hid (by kernel_rfl)
  have HCHX : Hid (∀ W, Below W0.heap.size W0 W → W.cell? ⟨w.heap.size + 1, 0, none⟩ = some (.string a) ∧ W.cell? ⟨w.heap.size + 1, 1, none⟩ = some (.string b) ∧ w.heap.size + 1 < W.heap.size) := Lib.hid (fun W hW => ⟨by rw [cell_of_block (HX.out W hW)]; rfl, by rw [cell_of_block (HX.out W hW)]; rfl, by have := hW.size; omega⟩)
  have HLI : Hid (∀ W, Below W0.heap.size W0 W → W.cell? ⟨w.heap.size, 2, none⟩ = some (.slice (h.A 2) m (h.c 2)) ∧ w.heap.size < W.heap.size) := Lib.hid (fun W hW => ⟨by rw [cell_of_block (HH.out W hW), ← HMM.out]; rfl, by have := hW.size; omega⟩)
  have H0 := Lib.hid (Below.refl W0.heap.size W0)
  clear hb0 hs0 hh
  subst hW0
  go_enter Try.func13, Try.ntmps13
  go_wp2_with (first
    | (refine wpList_load_row rfl 37 (.tmp 2) rfl w.heap.size rfl _ _ _ _ (HH.out _ H0.out) huh rfl (HSH.out _) ?_)
    | (refine wpList_load_row rfl 39 (.tmp 3) rfl (w.heap.size + 1) rfl _ _ _ _ (HX.out _ H0.out) huHX rfl HSHX.out ?_)
    | fail)
  refine (HCK.out _ (HBW.out _ H0.out).1).mono ?_
  rintro e w1 ⟨rfl, hb1⟩
  have H1 := Lib.hid hb1
  clear hb1
  by_cases hk : k = 0
  · have HE := Lib.hid hk
    subst hk
    obtain ⟨wB, hwB⟩ : ∃ W, W = w1 := ⟨_, rfl⟩
    have HWB0 := Lib.hid hwB
    have hob := H1.out
    rw [← hwB] at hob
    have HOB := Lib.hid hob
    clear hob
    have HXB : Hid (∀ W, Below wB.heap.size wB W → W.heap[w.heap.size + 1]? = some (.cells #[.string a, .string b] 39 (0, 0))) := Lib.hid (fun W hW => HX.out W (HOB.out.trans (hW.mono HOB.out.size)))
    have HST : Hid (∀ W, Below wB.heap.size wB W → W.cell? ⟨w.heap.size, 2, none⟩ = some (.slice (h.A 2) m (h.c 2)) ∧ W.rangeAt (w.heap.size + 1) 0 [.string a, .string b]) := Lib.hid (fun W hW => ⟨(HLI.out W (HOB.out.trans (hW.mono HOB.out.size))).1, range_cells (HXB.out W hW)⟩)
    have HWB := Lib.hid hwB
    clear hwB
    go_upto_region 4 with fail
    rw [← HWB.out]
    go_wp2_with fail
    refine lastW_region (S := (fun w' => w'.cell? ⟨w.heap.size, 2, none⟩ = some (.slice (h.A 2) (m) (h.c 2)) ∧ w'.rangeAt (w.heap.size + 1) 0 [.string a, .string b])) (n := 6) (by kernel_rfl) ?_
    have ST5 := HST.out _ (Below.refl wB.heap.size wB).drew
    refine LastW.take (i := 1) (v := .pointer (some ⟨w.heap.size, 2, none⟩)) rfl (by kernel_rfl) (by kernel_rfl) (by kernel_rfl) (by kernel_rfl) (by decide) (fun _ _ _ h => h.elim) (.inl ⟨by kernel_rfl, fun w hw => by clear hw; go_simp⟩) ST5 ?_
    (try simp only [Act.put, List.getElem_toArray, List.getElem_cons_succ, List.getElem_cons_zero, List.setIfInBounds_toArray, List.set_cons_zero, List.set_cons_succ])
    refine LastW.take (i := 2) (v := .slice (h.A 2) (m) (h.c 2)) rfl (by kernel_rfl) (by kernel_rfl) (by kernel_rfl) (by kernel_rfl) (by decide) (fun _ _ _ h => h.elim) (.inl ⟨by kernel_rfl, fun w hw => by have hw := hw.1; go_simp⟩) ST5 ?_
    (try simp only [Act.put, List.getElem_toArray, List.getElem_cons_succ, List.getElem_cons_zero, List.setIfInBounds_toArray, List.set_cons_zero, List.set_cons_succ])
    refine LastW.take (i := 3) (v := .agg #[.string a, .string b]) rfl (by kernel_rfl) (by kernel_rfl) (by kernel_rfl) (by kernel_rfl) (by decide) (fun _ _ _ h => h.elim) (yieldsIf_load_mid (by kernel_rfl) 39 (.tmp 3) rfl (w.heap.size + 1) 0 rfl [.string a, .string b] _ (fun w h => h.2) huHX rfl HSHX.out) ST5 ?_
    (try simp only [Act.put, List.getElem_toArray, List.getElem_cons_succ, List.getElem_cons_zero, List.setIfInBounds_toArray, List.set_cons_zero, List.set_cons_succ])
    refine LastW.one (i := 0) (by kernel_rfl) rfl (fun K hK => ?_)
    go_simp
    refine (tabZone_any _).mono ?_
    rintro e w7 ⟨rfl, hb7⟩
    have H7 := Lib.hid ((Below.refl wB.heap.size wB).drew.trans (hb7.mono (Below.refl wB.heap.size wB).drew.size))
    clear hb7
    refine hK.out _ _ (fun _ => HST.out _ H7.out) (fun _ => ?_)
    clear hK K
    (try simp only [Act.put, List.getElem_toArray, List.getElem_cons_succ, List.getElem_cons_zero, List.setIfInBounds_toArray, List.set_cons_zero, List.set_cons_succ])
    have H7W := Lib.hid (HOB.out.trans (H7.out.mono HOB.out.size))
    refine LastW.one (i := 4) (by kernel_rfl) rfl (fun K hK => ?_)
    go_simp
    refine (HPU.out _ (HBW.out _ H7W.out).1).mono ?_
    rintro e w8 ⟨A5, n5, p5, hl5, rfl, hown5, hb8⟩
    have H8 := Lib.hid (H7.out.trans (hb8.mono H7.out.size))
    have H8W := Lib.hid (HOB.out.trans (H8.out.mono HOB.out.size))
    have HO5 := Lib.hid hown5
    have HLE := Lib.hid hl5
    clear hb8 hown5 hl5
    refine hK.out _ _ (fun _ => HST.out _ H8.out) (fun _ => ?_)
    clear hK K
    (try simp only [Act.put, List.getElem_toArray, List.getElem_cons_succ, List.getElem_cons_zero, List.setIfInBounds_toArray, List.set_cons_zero, List.set_cons_succ])
    refine LastW.take (i := 5) (v := .pointer (some ⟨w.heap.size, 2, none⟩)) rfl (by kernel_rfl) (by kernel_rfl) (by kernel_rfl) (by kernel_rfl) (by decide) (fun _ _ _ h => h.elim) (.inl ⟨by kernel_rfl, fun w hw => by clear hw; go_simp⟩) (HST.out _ H8.out) ?_
    (try simp only [Act.put, List.getElem_toArray, List.getElem_cons_succ, List.getElem_cons_zero, List.setIfInBounds_toArray, List.set_cons_zero, List.set_cons_succ])
    refine LastW.one (i := 6) (by kernel_rfl) rfl (fun K hK => ?_)
    have c5 := (HLI.out _ H8W.out).1
    have f5 : w8.frozen? ⟨w.heap.size, 2, none⟩ = false := frozen_of_block (HH.out _ H8W.out)
    have HZ5 := Lib.hid (HZ.out _ H8W.out)
    have HH5 := Lib.hid (HH.out _ H8W.out)
    have HB5 := Lib.hid (HBW.out _ H8W.out)
    go_simp
    refine hK.out _ _ (fun h => absurd rfl h) (fun _ => ?_)
    clear hK K
    (try simp only [Act.put, List.getElem_toArray, List.getElem_cons_succ, List.getElem_cons_zero, List.setIfInBounds_toArray, List.set_cons_zero, List.set_cons_succ])
    refine LastW.done (by kernel_rfl) ?_ _
    refine NoPanic.normal ?_
    have H9 : Hid ((w8.setCell ⟨w.heap.size, 2, none⟩ (.slice A5 n5 p5)).heap[w.heap.size]? = some (.cells (h.set 2 A5 n5 p5).cells 37 (0, 0))) := Lib.hid (by rw [block_setCell HH5.out, h.set_cells _ _ _ 2 (by decide)])
    have HZ6 : Hid ((w8.setCell ⟨w.heap.size, 2, none⟩ (.slice A5 n5 p5)).heap[w.heap.size + 2]? = some (.cells Hs.zero 37 (0, 0))) := Lib.hid ((block_setCell_other (by omega) _).trans HZ5.out)
    have HB6 : Hid (Below w.heap.size w (w8.setCell ⟨w.heap.size, 2, none⟩ (.slice A5 n5 p5))) := Lib.hid (HB5.out.1.setCell (Nat.le_refl _) _)
    have HS4 : Hid (w.heap.size + 2 < w7.heap.size) := Lib.hid (by have := (HBW.out _ H7W.out).2; omega)
    have HO6 : Hid ((w8.setCell ⟨w.heap.size, 2, none⟩ (.slice A5 n5 p5)).ownsRow w7.heap.size 39 2 (.slice A5 n5 p5) n5 l.flatten) := Lib.hid (own_far HO5.out (by have := HS4.out; simp; omega) (Nat.le_refl _))
    generalize w8.setCell ⟨w.heap.size, 2, none⟩ (.slice A5 n5 p5) = w6 at *
    go_wp2_with (first
      | (refine wpList_load_row rfl 37 (.tmp 2) rfl w.heap.size rfl _ _ _ _ H9.out huh rfl (HSH.out _) ?_)
      | (refine wpList_store_row rfl 37 (.tmp 4) (.tmp 20) rfl (w.heap.size + 2) (h.set 2 A5 n5 p5).cells rfl rfl _ _ HZ6.out (HSH.out _) rfl (H1C.out _) ?_)
      | fail)
    exact bodyPost_ret (results_row_tmp rfl _ _ (w.heap.size + 2) _ _ _ _ rfl (setRow_heap _ _ _ _ _ _ HZ6.out) huh rfl (HSH.out _)) rfl ⟨setRow_below HB6.out (by omega) _, .inr ⟨rfl, A5, n5, p5, HLE.out, own_rowed HO6.out HS4.out (by have := HS4.out; omega), rfl⟩⟩
  · have hk0 : ((k : Int) != 0) = true := by simpa using hk
    have HK := Lib.hid hk
    clear hk
    go_wp2_with (first
      | (refine wpList_store_row rfl 37 (.tmp 4) (.tmp 12) rfl (w.heap.size + 2) Hs.zero rfl rfl _ _ (HZ.out _ H1.out) HSQ.out rfl H1Q.out ?_)
      | fail)
    exact bodyPost_ret (results_row_tmp rfl _ _ (w.heap.size + 2) _ _ _ _ rfl (setRow_heap _ _ _ _ _ _ (HZ.out _ H1.out)) huh rfl HSQ.out) rfl ⟨setRow_below (HBW.out _ H1.out).1 (by omega) _, .inl ⟨HK.out, rfl⟩⟩

set_option maxRecDepth 100000 in
set_option maxHeartbeats 3200000 in
theorem caddb_any (h : Hs) (L : Nat → List (List Value)) (xc xz : ByteArray) (kd ai pl vo we : Int) (fz : Bool) (w : World) (hh : HT h L w) (hn1 : h.n 3 ≤ 1000) (hc1 : h.n 3 ≤ h.c 3 ∧ h.c 3 ≤ 9223372036854775807) (hm : xc.size ≤ maxLen) :
    Calls Try.prog 15 #[.agg h.cells, .agg #[.string xc, .string xz, .int .i64 kd, .int .i64 ai, .int .i64 pl, .int .i64 vo, .int .i64 we, .bool fz]] w (PutP 41 8 3 (addBE (L 2) (L 3) (Bn.mk xc xz kd ai pl vo we fz)) (putG ordBin (L 3) (Bn.mk xc xz kd ai pl vo we fz).cells) h w) := by
  have HCK := Lib.hid (fun W (hW : Below w.heap.size w W) => checkb_any h L xc xz kd ai pl vo we fz W (hh.below hW) hm)
  have HPU := Lib.hid (fun W (hW : Below w.heap.size w W) => putBin (h.A 3) (h.n 3) (h.c 3) 75 #[] ordBin [.string xc, .string xz, .int .i64 kd, .int .i64 ai, .int .i64 pl, .int .i64 vo, .int .i64 we, .bool fz] (L 3) W (hh 3 (by decide)).1 hc1.1 hc1.2 (by omega) (hh 3 (by decide)).2.2.1 (Bn.fits (Bn.mk xc xz kd ai pl vo we fz)) ((hh.below hW) 3 (by decide)).2.2.2 (tellsBin W))
  obtain ⟨l, hl⟩ : ∃ l, putG ordBin (L 3) [.string xc, .string xz, .int .i64 kd, .int .i64 ai, .int .i64 pl, .int .i64 vo, .int .i64 we, .bool fz] = l := ⟨_, rfl⟩
  have hl2 : putG ordBin (L 3) (Bn.mk xc xz kd ai pl vo we fz).cells = l := hl
  obtain ⟨m, hmm⟩ : ∃ m, h.n 3 = m := ⟨_, rfl⟩
  obtain ⟨k, hk⟩ : ∃ k, addBE (L 2) (L 3) (Bn.mk xc xz kd ai pl vo we fz) = k := ⟨_, rfl⟩
  rw [hl, hmm] at HPU
  rw [hmm] at hn1
  rw [hk] at HCK
  rw [hl2, hk]
  have HMM := Lib.hid hmm
  clear hl hl2 hmm hk hm
  obtain ⟨W0, hW0⟩ : ∃ W0, W0 = (((w.alloc (.cells h.cells 37)).alloc (.cells #[.string xc, .string xz, .int .i64 kd, .int .i64 ai, .int .i64 pl, .int .i64 vo, .int .i64 we, .bool fz] 41)).alloc (.cells #[.slice none 0 0, .slice none 0 0, .slice none 0 0, .slice none 0 0, .slice none 0 0, .slice none 0 0, .slice none 0 0, .slice none 0 0, .slice none 0 0, .slice none 0 0, .slice none 0 0, .slice none 0 0, .slice none 0 0, .slice none 0 0, .int .i64 0] 37)) := ⟨_, rfl⟩
  have hb0 : Below w.heap.size w W0 := by rw [hW0]; exact (((Below.refl _ _).alloc (Nat.le_refl _) _).alloc (by simp <;> omega) _).alloc (by simp <;> omega) _
  have hs0 : W0.heap.size = w.heap.size + 3 := by rw [hW0]; simp
  have HH : Hid (∀ W, Below W0.heap.size W0 W → W.heap[w.heap.size]? = some (.cells h.cells 37 (0, 0))) := Lib.hid (fun W hW => (hW.block _ (by omega)).trans (by
    rw [hW0]
    have hq := heap_alloc_new w (.cells h.cells 37)
    exact (Below.heap_alloc _ _ _ (by simp <;> omega)).trans ((Below.heap_alloc _ _ _ (by simp <;> omega)).trans ((by simpa using hq)))))
  have HX : Hid (∀ W, Below W0.heap.size W0 W → W.heap[w.heap.size + 1]? = some (.cells #[.string xc, .string xz, .int .i64 kd, .int .i64 ai, .int .i64 pl, .int .i64 vo, .int .i64 we, .bool fz] 41 (0, 0))) := Lib.hid (fun W hW => (hW.block _ (by omega)).trans (by
    rw [hW0]
    have hq := heap_alloc_new (w.alloc (.cells h.cells 37)) (.cells #[.string xc, .string xz, .int .i64 kd, .int .i64 ai, .int .i64 pl, .int .i64 vo, .int .i64 we, .bool fz] 41)
    exact (Below.heap_alloc _ _ _ (by simp <;> omega)).trans ((by simpa using hq))))
  have HZ : Hid (∀ W, Below W0.heap.size W0 W → W.heap[w.heap.size + 2]? = some (.cells Hs.zero 37 (0, 0))) := Lib.hid (fun W hW => (hW.block _ (by omega)).trans (by
    rw [hW0]
    have hq := heap_alloc_new ((w.alloc (.cells h.cells 37)).alloc (.cells #[.string xc, .string xz, .int .i64 kd, .int .i64 ai, .int .i64 pl, .int .i64 vo, .int .i64 we, .bool fz] 41)) (.cells #[.slice none 0 0, .slice none 0 0, .slice none 0 0, .slice none 0 0, .slice none 0 0, .slice none 0 0, .slice none 0 0, .slice none 0 0, .slice none 0 0, .slice none 0 0, .slice none 0 0, .slice none 0 0, .slice none 0 0, .slice none 0 0, .int .i64 0] 37)
    exact (by simpa [Hs.zero] using hq)))
  have HBW : Hid (∀ W, Below W0.heap.size W0 W → Below w.heap.size w W ∧ w.heap.size + 3 ≤ W.heap.size) := Lib.hid (fun W hW => ⟨hb0.trans (hW.mono (by omega)), by have := hW.size; omega⟩)
  have huh := Try.underlying37
  have HSH : Hid (∀ a : Hs, (Try.prog.info? 37).map (·.size) = some a.cells.size) := Lib.hid (fun a => by kernel_rfl)
  have HSQ : Hid ((Try.prog.info? 37).map (·.size) = some Hs.zero.size) := Lib.hid (by kernel_rfl)
  have H1C : Hid (∀ a : Hs, a.cells.all (·.oneCell') = true) := Lib.hid (fun a => by simp [Hs.cells, Value.oneCell'])
  have H1Q : Hid (Hs.zero.all (·.oneCell') = true) := Lib.hid (by simp [Hs.zero, Value.oneCell'])
  have huHX := Try.underlying41
  have HSHX : Hid ((Try.prog.info? 41).map (·.size) = some 8) := Lib.hid (by kernel_rfl)
  have HCHX : Hid (∀ W, Below W0.heap.size W0 W → W.cell? ⟨w.heap.size + 1, 0, none⟩ = some (.string xc) ∧ W.cell? ⟨w.heap.size + 1, 1, none⟩ = some (.string xz) ∧ W.cell? ⟨w.heap.size + 1, 2, none⟩ = some (.int .i64 kd) ∧ W.cell? ⟨w.heap.size + 1, 3, none⟩ = some (.int .i64 ai) ∧ W.cell? ⟨w.heap.size + 1, 4, none⟩ = some (.int .i64 pl) ∧ W.cell? ⟨w.heap.size + 1, 5, none⟩ = some (.int .i64 vo) ∧ W.cell? ⟨w.heap.size + 1, 6, none⟩ = some (.int .i64 we) ∧ W.cell? ⟨w.heap.size + 1, 7, none⟩ = some (.bool fz) ∧ w.heap.size + 1 < W.heap.size) := Lib.hid (fun W hW => ⟨by rw [cell_of_block (HX.out W hW)]; rfl, by rw [cell_of_block (HX.out W hW)]; rfl, by rw [cell_of_block (HX.out W hW)]; rfl, by rw [cell_of_block (HX.out W hW)]; rfl, by rw [cell_of_block (HX.out W hW)]; rfl, by rw [cell_of_block (HX.out W hW)]; rfl, by rw [cell_of_block (HX.out W hW)]; rfl, by rw [cell_of_block (HX.out W hW)]; rfl, by have := hW.size; omega⟩)
  have HLI : Hid (∀ W, Below W0.heap.size W0 W → W.cell? ⟨w.heap.size, 3, none⟩ = some (.slice (h.A 3) m (h.c 3)) ∧ w.heap.size < W.heap.size) := Lib.hid (fun W hW => ⟨by rw [cell_of_block (HH.out W hW), ← HMM.out]; rfl, by have := hW.size; omega⟩)
  have H0 := Lib.hid (Below.refl W0.heap.size W0)
  clear hb0 hs0 hh
  subst hW0
  go_enter Try.func15, Try.ntmps15
  go_wp2_with (first
    | (refine wpList_load_row rfl 37 (.tmp 2) rfl w.heap.size rfl _ _ _ _ (HH.out _ H0.out) huh rfl (HSH.out _) ?_)
    | (refine wpList_load_row rfl 41 (.tmp 3) rfl (w.heap.size + 1) rfl _ _ _ _ (HX.out _ H0.out) huHX rfl HSHX.out ?_)
    | fail)
  refine (HCK.out _ (HBW.out _ H0.out).1).mono ?_
  rintro e w1 ⟨rfl, hb1⟩
  have H1 := Lib.hid hb1
  clear hb1
  by_cases hk : k = 0
  · have HE := Lib.hid hk
    subst hk
    obtain ⟨wB, hwB⟩ : ∃ W, W = w1 := ⟨_, rfl⟩
    have HWB0 := Lib.hid hwB
    have hob := H1.out
    rw [← hwB] at hob
    have HOB := Lib.hid hob
    clear hob
    have HXB : Hid (∀ W, Below wB.heap.size wB W → W.heap[w.heap.size + 1]? = some (.cells #[.string xc, .string xz, .int .i64 kd, .int .i64 ai, .int .i64 pl, .int .i64 vo, .int .i64 we, .bool fz] 41 (0, 0))) := Lib.hid (fun W hW => HX.out W (HOB.out.trans (hW.mono HOB.out.size)))
    have HST : Hid (∀ W, Below wB.heap.size wB W → W.cell? ⟨w.heap.size, 3, none⟩ = some (.slice (h.A 3) m (h.c 3)) ∧ W.rangeAt (w.heap.size + 1) 0 [.string xc, .string xz, .int .i64 kd, .int .i64 ai, .int .i64 pl, .int .i64 vo, .int .i64 we, .bool fz]) := Lib.hid (fun W hW => ⟨(HLI.out W (HOB.out.trans (hW.mono HOB.out.size))).1, range_cells (HXB.out W hW)⟩)
    have HWB := Lib.hid hwB
    clear hwB
    go_upto_region 4 with fail
    rw [← HWB.out]
    go_wp2_with fail
    refine lastW_region (S := (fun w' => w'.cell? ⟨w.heap.size, 3, none⟩ = some (.slice (h.A 3) (m) (h.c 3)) ∧ w'.rangeAt (w.heap.size + 1) 0 [.string xc, .string xz, .int .i64 kd, .int .i64 ai, .int .i64 pl, .int .i64 vo, .int .i64 we, .bool fz])) (n := 6) (by kernel_rfl) ?_
    have ST5 := HST.out _ (Below.refl wB.heap.size wB).drew
    refine LastW.take (i := 1) (v := .pointer (some ⟨w.heap.size, 3, none⟩)) rfl (by kernel_rfl) (by kernel_rfl) (by kernel_rfl) (by kernel_rfl) (by decide) (fun _ _ _ h => h.elim) (.inl ⟨by kernel_rfl, fun w hw => by clear hw; go_simp⟩) ST5 ?_
    (try simp only [Act.put, List.getElem_toArray, List.getElem_cons_succ, List.getElem_cons_zero, List.setIfInBounds_toArray, List.set_cons_zero, List.set_cons_succ])
    refine LastW.take (i := 2) (v := .slice (h.A 3) (m) (h.c 3)) rfl (by kernel_rfl) (by kernel_rfl) (by kernel_rfl) (by kernel_rfl) (by decide) (fun _ _ _ h => h.elim) (.inl ⟨by kernel_rfl, fun w hw => by have hw := hw.1; go_simp⟩) ST5 ?_
    (try simp only [Act.put, List.getElem_toArray, List.getElem_cons_succ, List.getElem_cons_zero, List.setIfInBounds_toArray, List.set_cons_zero, List.set_cons_succ])
    refine LastW.take (i := 3) (v := .agg #[.string xc, .string xz, .int .i64 kd, .int .i64 ai, .int .i64 pl, .int .i64 vo, .int .i64 we, .bool fz]) rfl (by kernel_rfl) (by kernel_rfl) (by kernel_rfl) (by kernel_rfl) (by decide) (fun _ _ _ h => h.elim) (yieldsIf_load_mid (by kernel_rfl) 41 (.tmp 3) rfl (w.heap.size + 1) 0 rfl [.string xc, .string xz, .int .i64 kd, .int .i64 ai, .int .i64 pl, .int .i64 vo, .int .i64 we, .bool fz] _ (fun w h => h.2) huHX rfl HSHX.out) ST5 ?_
    (try simp only [Act.put, List.getElem_toArray, List.getElem_cons_succ, List.getElem_cons_zero, List.setIfInBounds_toArray, List.set_cons_zero, List.set_cons_succ])
    refine LastW.one (i := 0) (by kernel_rfl) rfl (fun K hK => ?_)
    go_simp
    refine (tabBin_any _).mono ?_
    rintro e w7 ⟨rfl, hb7⟩
    have H7 := Lib.hid ((Below.refl wB.heap.size wB).drew.trans (hb7.mono (Below.refl wB.heap.size wB).drew.size))
    clear hb7
    refine hK.out _ _ (fun _ => HST.out _ H7.out) (fun _ => ?_)
    clear hK K
    (try simp only [Act.put, List.getElem_toArray, List.getElem_cons_succ, List.getElem_cons_zero, List.setIfInBounds_toArray, List.set_cons_zero, List.set_cons_succ])
    have H7W := Lib.hid (HOB.out.trans (H7.out.mono HOB.out.size))
    refine LastW.one (i := 4) (by kernel_rfl) rfl (fun K hK => ?_)
    go_simp
    refine (HPU.out _ (HBW.out _ H7W.out).1).mono ?_
    rintro e w8 ⟨A5, n5, p5, hl5, rfl, hown5, hb8⟩
    have H8 := Lib.hid (H7.out.trans (hb8.mono H7.out.size))
    have H8W := Lib.hid (HOB.out.trans (H8.out.mono HOB.out.size))
    have HO5 := Lib.hid hown5
    have HLE := Lib.hid hl5
    clear hb8 hown5 hl5
    refine hK.out _ _ (fun _ => HST.out _ H8.out) (fun _ => ?_)
    clear hK K
    (try simp only [Act.put, List.getElem_toArray, List.getElem_cons_succ, List.getElem_cons_zero, List.setIfInBounds_toArray, List.set_cons_zero, List.set_cons_succ])
    refine LastW.take (i := 5) (v := .pointer (some ⟨w.heap.size, 3, none⟩)) rfl (by kernel_rfl) (by kernel_rfl) (by kernel_rfl) (by kernel_rfl) (by decide) (fun _ _ _ h => h.elim) (.inl ⟨by kernel_rfl, fun w hw => by clear hw; go_simp⟩) (HST.out _ H8.out) ?_
    (try simp only [Act.put, List.getElem_toArray, List.getElem_cons_succ, List.getElem_cons_zero, List.setIfInBounds_toArray, List.set_cons_zero, List.set_cons_succ])
    refine LastW.one (i := 6) (by kernel_rfl) rfl (fun K hK => ?_)
    have c5 := (HLI.out _ H8W.out).1
    have f5 : w8.frozen? ⟨w.heap.size, 3, none⟩ = false := frozen_of_block (HH.out _ H8W.out)
    have HZ5 := Lib.hid (HZ.out _ H8W.out)
    have HH5 := Lib.hid (HH.out _ H8W.out)
    have HB5 := Lib.hid (HBW.out _ H8W.out)
    go_simp
    refine hK.out _ _ (fun h => absurd rfl h) (fun _ => ?_)
    clear hK K
    (try simp only [Act.put, List.getElem_toArray, List.getElem_cons_succ, List.getElem_cons_zero, List.setIfInBounds_toArray, List.set_cons_zero, List.set_cons_succ])
    refine LastW.done (by kernel_rfl) ?_ _
    refine NoPanic.normal ?_
    have H9 : Hid ((w8.setCell ⟨w.heap.size, 3, none⟩ (.slice A5 n5 p5)).heap[w.heap.size]? = some (.cells (h.set 3 A5 n5 p5).cells 37 (0, 0))) := Lib.hid (by rw [block_setCell HH5.out, h.set_cells _ _ _ 3 (by decide)])
    have HZ6 : Hid ((w8.setCell ⟨w.heap.size, 3, none⟩ (.slice A5 n5 p5)).heap[w.heap.size + 2]? = some (.cells Hs.zero 37 (0, 0))) := Lib.hid ((block_setCell_other (by omega) _).trans HZ5.out)
    have HB6 : Hid (Below w.heap.size w (w8.setCell ⟨w.heap.size, 3, none⟩ (.slice A5 n5 p5))) := Lib.hid (HB5.out.1.setCell (Nat.le_refl _) _)
    have HS4 : Hid (w.heap.size + 2 < w7.heap.size) := Lib.hid (by have := (HBW.out _ H7W.out).2; omega)
    have HO6 : Hid ((w8.setCell ⟨w.heap.size, 3, none⟩ (.slice A5 n5 p5)).ownsRow w7.heap.size 41 8 (.slice A5 n5 p5) n5 l.flatten) := Lib.hid (own_far HO5.out (by have := HS4.out; simp; omega) (Nat.le_refl _))
    generalize w8.setCell ⟨w.heap.size, 3, none⟩ (.slice A5 n5 p5) = w6 at *
    go_wp2_with (first
      | (refine wpList_load_row rfl 37 (.tmp 2) rfl w.heap.size rfl _ _ _ _ H9.out huh rfl (HSH.out _) ?_)
      | (refine wpList_store_row rfl 37 (.tmp 4) (.tmp 20) rfl (w.heap.size + 2) (h.set 3 A5 n5 p5).cells rfl rfl _ _ HZ6.out (HSH.out _) rfl (H1C.out _) ?_)
      | fail)
    exact bodyPost_ret (results_row_tmp rfl _ _ (w.heap.size + 2) _ _ _ _ rfl (setRow_heap _ _ _ _ _ _ HZ6.out) huh rfl (HSH.out _)) rfl ⟨setRow_below HB6.out (by omega) _, .inr ⟨rfl, A5, n5, p5, HLE.out, own_rowed HO6.out HS4.out (by have := HS4.out; omega), rfl⟩⟩
  · have hk0 : ((k : Int) != 0) = true := by simpa using hk
    have HK := Lib.hid hk
    clear hk
    go_wp2_with (first
      | (refine wpList_store_row rfl 37 (.tmp 4) (.tmp 12) rfl (w.heap.size + 2) Hs.zero rfl rfl _ _ (HZ.out _ H1.out) HSQ.out rfl H1Q.out ?_)
      | fail)
    exact bodyPost_ret (results_row_tmp rfl _ _ (w.heap.size + 2) _ _ _ _ rfl (setRow_heap _ _ _ _ _ _ (HZ.out _ H1.out)) huh rfl HSQ.out) rfl ⟨setRow_below (HBW.out _ H1.out).1 (by omega) _, .inl ⟨HK.out, rfl⟩⟩

set_option maxRecDepth 100000 in
set_option maxHeartbeats 1600000 in
theorem csite_any (h : Hs) (L : Nat → List (List Value)) (s : ByteArray) (w : World) (hh : HT h L w) :
    Calls Try.prog 23 #[.agg h.cells, .string s] w fun e w' => e = .returned (.string (siteT (L 2) (L 3) s)) ∧ Below w.heap.size w w' := by
  obtain ⟨y, hy, hyb⟩ := bin_eight hh s
  obtain ⟨ga, gb, hg, hgs⟩ := zone_two hh y.zone
  have HFB := Lib.hid (fun W (hW : Below w.heap.size w W) => fcBin (hh.below hW) s)
  have HFZ := Lib.hid (fun W (hW : Below w.heap.size w W) => fcZone (hh.below hW) y.zone)
  obtain ⟨il, hil⟩ : ∃ q, (atBin (L 3) s).isSome = q := ⟨_, rfl⟩
  obtain ⟨iz, hiz⟩ : ∃ q, (atZone (L 2) y.zone).isSome = q := ⟨_, rfl⟩
  obtain ⟨r, hr⟩ : ∃ r, siteT (L 2) (L 3) s = r := ⟨_, rfl⟩
  have HA : Hid (r = if il = true then gb else ⟨#[]⟩) := Lib.hid (by rw [← hr]; unfold siteT; rw [hil, hyb, hgs])
  rw [hy, hil] at HFB
  unfold Bn.cells at HFB
  rw [hg, hiz] at HFZ
  rw [hr]
  clear hr hil hiz hy hyb hg hgs
  obtain ⟨W0, hW0⟩ : ∃ W0, W0 = (w.alloc (.cells h.cells 37)) := ⟨_, rfl⟩
  have hb0 : Below w.heap.size w W0 := by rw [hW0]; exact (Below.refl _ _).alloc (Nat.le_refl _) _
  have hs0 : W0.heap.size = w.heap.size + 1 := by rw [hW0]; simp
  have HH : Hid (∀ W, Below W0.heap.size W0 W → W.heap[w.heap.size]? = some (.cells h.cells 37 (0, 0))) := Lib.hid (fun W hW => (hW.block _ (by omega)).trans (by
    rw [hW0]
    have hq := heap_alloc_new w (.cells h.cells 37)
    exact (by simpa using hq)))
  have HBW : Hid (∀ W, Below W0.heap.size W0 W → Below w.heap.size w W ∧ w.heap.size + 1 ≤ W.heap.size) := Lib.hid (fun W hW => ⟨hb0.trans (hW.mono (by omega)), by have := hW.size; omega⟩)
  have huh := Try.underlying37
  have HSH : Hid (∀ a : Hs, (Try.prog.info? 37).map (·.size) = some a.cells.size) := Lib.hid (fun a => by kernel_rfl)
  have H0 := Lib.hid (Below.refl W0.heap.size W0)
  clear hb0 hs0 hh
  subst hW0
  go_enter Try.func23, Try.ntmps23
  go_wp2_with (first
    | (refine wpList_load_row rfl 37 (.tmp 2) rfl w.heap.size rfl _ _ _ _ (HH.out _ H0.out) huh rfl (HSH.out _) ?_)
    | fail)
  refine (HFB.out _ (HBW.out _ H0.out).1).mono ?_
  rintro e w1 ⟨rfl, hb1⟩
  have H1 := Lib.hid (H0.out.trans (hb1.mono H0.out.size))
  clear hb1
  have H2 := Lib.hid (H1.out.alloc H1.out.size (.cells #[.string y.code, .string y.zone, .int .i64 y.kind, .int .i64 y.aisle, .int .i64 y.place, .int .i64 y.vol, .int .i64 y.wei, .bool y.frz] 41))
  cases il with
  | false =>
    have HE : Hid (r = ⟨#[]⟩) := Lib.hid (by rw [HA.out]; rfl)
    go_wp2_with fail
    go_ret
    exact ⟨by rw [HE.out]; rfl, (HBW.out _ H2.out).1⟩
  | true =>
    have HE : Hid (r = gb) := Lib.hid (by rw [HA.out]; rfl)
    go_wp2_with (first
      | (refine wpList_load_row rfl 37 (.tmp 2) rfl w.heap.size rfl _ _ _ _ (HH.out _ H2.out) huh rfl (HSH.out _) ?_)
      | fail)
    refine (HFZ.out _ (HBW.out _ H2.out).1).mono ?_
    rintro e w2 ⟨rfl, hb2⟩
    have H3 := Lib.hid (H2.out.trans (hb2.mono H2.out.size))
    clear hb2
    have H4 := Lib.hid (H3.out.alloc H3.out.size (.cells #[.string ga, .string gb] 39))
    go_wp2_with fail
    go_ret
    exact ⟨by rw [HE.out]; rfl, (HBW.out _ H4.out).1⟩

set_option maxRecDepth 100000 in
set_option maxHeartbeats 3200000 in
theorem cfreeze_any (h : Hs) (L : Nat → List (List Value)) (s : ByteArray) (on : Bool) (w : World) (hh : HT h L w) (hn3 : h.n 3 ≤ 1000) (hc1 : h.n 3 ≤ h.c 3 ∧ h.c 3 ≤ 9223372036854775807) :
    Calls Try.prog 21 #[.agg h.cells, .string s, .bool on] w (PutP 41 8 3 (frE (L 3) s on) (frL (L 3) s on) h w) := by
  obtain ⟨y, hy, hyb⟩ := bin_eight hh s
  have HFB := Lib.hid (fun W (hW : Below w.heap.size w W) => fcBin (hh.below hW) s)
  have HPU := Lib.hid (fun W (hW : Below w.heap.size w W) => putBin (h.A 3) (h.n 3) (h.c 3) 75 #[] ordBin [.string y.code, .string y.zone, .int .i64 y.kind, .int .i64 y.aisle, .int .i64 y.place, .int .i64 y.vol, .int .i64 y.wei, .bool on] (L 3) W (hh 3 (by decide)).1 hc1.1 hc1.2 (by omega) (hh 3 (by decide)).2.2.1 (Bn.fits (y.set on)) ((hh.below hW) 3 (by decide)).2.2.2 (tellsBin W))
  obtain ⟨il, hil⟩ : ∃ q, (atBin (L 3) s).isSome = q := ⟨_, rfl⟩
  obtain ⟨fz, hfz⟩ : ∃ q, y.frz = q := ⟨_, rfl⟩
  obtain ⟨er, her⟩ : ∃ r, frE (L 3) s on = r := ⟨_, rfl⟩
  obtain ⟨m, hmm⟩ : ∃ m, h.n 3 = m := ⟨_, rfl⟩
  have HA : Hid (er = frB il on fz) := Lib.hid (by rw [← her]; unfold frE frB; rw [hil, hyb, hfz])
  have hfl : frL (L 3) s on = putG ordBin (L 3) [.string y.code, .string y.zone, .int .i64 y.kind, .int .i64 y.aisle, .int .i64 y.place, .int .i64 y.vol, .int .i64 y.wei, .bool on] := by unfold frL; rw [hyb]; rfl
  obtain ⟨l, hl⟩ : ∃ l, putG ordBin (L 3) [.string y.code, .string y.zone, .int .i64 y.kind, .int .i64 y.aisle, .int .i64 y.place, .int .i64 y.vol, .int .i64 y.wei, .bool on] = l := ⟨_, rfl⟩
  rw [hy, hil] at HFB
  unfold Bn.cells at HFB
  rw [hfz] at HFB
  rw [her, hfl, hl]
  rw [hl, hmm] at HPU
  rw [hmm] at hn3
  have HMM := Lib.hid hmm
  clear her hil hfz hy hyb hl hfl hmm hc1
  obtain ⟨W0, hW0⟩ : ∃ W0, W0 = ((w.alloc (.cells h.cells 37)).alloc (.cells #[.slice none 0 0, .slice none 0 0, .slice none 0 0, .slice none 0 0, .slice none 0 0, .slice none 0 0, .slice none 0 0, .slice none 0 0, .slice none 0 0, .slice none 0 0, .slice none 0 0, .slice none 0 0, .slice none 0 0, .slice none 0 0, .int .i64 0] 37)) := ⟨_, rfl⟩
  have hb0 : Below w.heap.size w W0 := by rw [hW0]; exact ((Below.refl _ _).alloc (Nat.le_refl _) _).alloc (by simp <;> omega) _
  have hs0 : W0.heap.size = w.heap.size + 2 := by rw [hW0]; simp
  have HH : Hid (∀ W, Below W0.heap.size W0 W → W.heap[w.heap.size]? = some (.cells h.cells 37 (0, 0))) := Lib.hid (fun W hW => (hW.block _ (by omega)).trans (by
    rw [hW0]
    have hq := heap_alloc_new w (.cells h.cells 37)
    exact (Below.heap_alloc _ _ _ (by simp <;> omega)).trans ((by simpa using hq))))
  have HZ : Hid (∀ W, Below W0.heap.size W0 W → W.heap[w.heap.size + 1]? = some (.cells Hs.zero 37 (0, 0))) := Lib.hid (fun W hW => (hW.block _ (by omega)).trans (by
    rw [hW0]
    have hq := heap_alloc_new (w.alloc (.cells h.cells 37)) (.cells #[.slice none 0 0, .slice none 0 0, .slice none 0 0, .slice none 0 0, .slice none 0 0, .slice none 0 0, .slice none 0 0, .slice none 0 0, .slice none 0 0, .slice none 0 0, .slice none 0 0, .slice none 0 0, .slice none 0 0, .slice none 0 0, .int .i64 0] 37)
    exact (by simpa [Hs.zero] using hq)))
  have HBW : Hid (∀ W, Below W0.heap.size W0 W → Below w.heap.size w W ∧ w.heap.size + 2 ≤ W.heap.size) := Lib.hid (fun W hW => ⟨hb0.trans (hW.mono (by omega)), by have := hW.size; omega⟩)
  have huh := Try.underlying37
  have HSH : Hid (∀ a : Hs, (Try.prog.info? 37).map (·.size) = some a.cells.size) := Lib.hid (fun a => by kernel_rfl)
  have HSQ : Hid ((Try.prog.info? 37).map (·.size) = some Hs.zero.size) := Lib.hid (by kernel_rfl)
  have H1C : Hid (∀ a : Hs, a.cells.all (·.oneCell') = true) := Lib.hid (fun a => by simp [Hs.cells, Value.oneCell'])
  have H1Q : Hid (Hs.zero.all (·.oneCell') = true) := Lib.hid (by simp [Hs.zero, Value.oneCell'])
  have HLI : Hid (∀ W, Below W0.heap.size W0 W → W.cell? ⟨w.heap.size, 3, none⟩ = some (.slice (h.A 3) m (h.c 3)) ∧ w.heap.size < W.heap.size) := Lib.hid (fun W hW => ⟨by rw [cell_of_block (HH.out W hW), ← HMM.out]; rfl, by have := hW.size; omega⟩)
  have huB := Try.underlying41
  have HSB : Hid ((Try.prog.info? 41).map (·.size) = some 8) := Lib.hid (by kernel_rfl)
  have H0 := Lib.hid (Below.refl W0.heap.size W0)
  clear hb0 hs0 hh
  subst hW0
  go_enter Try.func21, Try.ntmps21
  go_wp2_with (first
    | (refine wpList_load_row rfl 37 (.tmp 3) rfl w.heap.size rfl _ _ _ _ (HH.out _ H0.out) huh rfl (HSH.out _) ?_)
    | fail)
  refine (HFB.out _ (HBW.out _ H0.out).1).mono ?_
  rintro e w1 ⟨rfl, hb1⟩
  have H1 := Lib.hid (H0.out.trans (hb1.mono H0.out.size))
  clear hb1
  have H2 := Lib.hid (H1.out.alloc H1.out.size (.cells #[.string y.code, .string y.zone, .int .i64 y.kind, .int .i64 y.aisle, .int .i64 y.place, .int .i64 y.vol, .int .i64 y.wei, .bool fz] 41))
  cases il with
  | false =>
    have HE : Hid (er = 12) := Lib.hid (by rw [HA.out]; rfl)
    go_wp2_with (first
      | (refine wpList_store_row rfl 37 (.tmp 6) (.tmp 18) rfl (w.heap.size + 1) Hs.zero rfl rfl _ _ (HZ.out _ H2.out) HSQ.out rfl H1Q.out ?_)
      | fail)
    exact bodyPost_ret (results_row_tmp rfl _ _ (w.heap.size + 1) _ _ _ _ rfl (setRow_heap _ _ _ _ _ _ (HZ.out _ H2.out)) huh rfl HSQ.out) rfl ⟨setRow_below (HBW.out _ H2.out).1 (by omega) _, .inl ⟨by rw [HE.out]; decide, by rw [HE.out]; rfl⟩⟩
  | true =>
    cases on with
    | true =>
      cases fz with
      | true =>
        have HE : Hid (er = 25) := Lib.hid (by rw [HA.out]; rfl)
        go_wp2_with (first
          | (refine wpList_store_row rfl 37 (.tmp 6) (.tmp 24) rfl (w.heap.size + 1) Hs.zero rfl rfl _ _ (HZ.out _ H2.out) HSQ.out rfl H1Q.out ?_)
          | fail)
        exact bodyPost_ret (results_row_tmp rfl _ _ (w.heap.size + 1) _ _ _ _ rfl (setRow_heap _ _ _ _ _ _ (HZ.out _ H2.out)) huh rfl HSQ.out) rfl ⟨setRow_below (HBW.out _ H2.out).1 (by omega) _, .inl ⟨by rw [HE.out]; decide, by rw [HE.out]; rfl⟩⟩
      | false =>
        have HE : Hid (er = 0) := Lib.hid (by rw [HA.out]; rfl)
        have H3 := Lib.hid (H1.out.alloc H1.out.size (.cells #[.string y.code, .string y.zone, .int .i64 y.kind, .int .i64 y.aisle, .int .i64 y.place, .int .i64 y.vol, .int .i64 y.wei, .bool true] 41))
        have HXN : Hid ((w1.alloc (.cells #[.string y.code, .string y.zone, .int .i64 y.kind, .int .i64 y.aisle, .int .i64 y.place, .int .i64 y.vol, .int .i64 y.wei, .bool true] 41)).heap[w1.heap.size]? = some (.cells #[.string y.code, .string y.zone, .int .i64 y.kind, .int .i64 y.aisle, .int .i64 y.place, .int .i64 y.vol, .int .i64 y.wei, .bool true] 41 (0, 0))) := Lib.hid (heap_alloc_new _ _)
        obtain ⟨wB, hwB⟩ : ∃ W, W = w1.alloc (.cells #[.string y.code, .string y.zone, .int .i64 y.kind, .int .i64 y.aisle, .int .i64 y.place, .int .i64 y.vol, .int .i64 y.wei, .bool true] 41) := ⟨_, rfl⟩
        have HWB0 := Lib.hid hwB
        have hob := H3.out
        rw [← hwB] at hob
        have HOB := Lib.hid hob
        clear hob
        have HXB : Hid (∀ W, Below wB.heap.size wB W → W.heap[w1.heap.size]? = some (.cells #[.string y.code, .string y.zone, .int .i64 y.kind, .int .i64 y.aisle, .int .i64 y.place, .int .i64 y.vol, .int .i64 y.wei, .bool true] 41 (0, 0))) := Lib.hid (fun W hW => (hW.block _ (by rw [HWB0.out]; exact lt_of_block HXN.out)).trans (by rw [HWB0.out]; exact HXN.out))
        have HST : Hid (∀ W, Below wB.heap.size wB W → W.cell? ⟨w.heap.size, 3, none⟩ = some (.slice (h.A 3) m (h.c 3)) ∧ W.rangeAt (w1.heap.size) 0 [.string y.code, .string y.zone, .int .i64 y.kind, .int .i64 y.aisle, .int .i64 y.place, .int .i64 y.vol, .int .i64 y.wei, .bool true]) := Lib.hid (fun W hW => ⟨(HLI.out W (HOB.out.trans (hW.mono HOB.out.size))).1, range_cells (HXB.out W hW)⟩)
        have HWB := Lib.hid hwB
        clear hwB
        go_upto_region 9 with fail
        rw [← HWB.out]
        go_wp2_with fail
        refine lastW_region (S := (fun w' => w'.cell? ⟨w.heap.size, 3, none⟩ = some (.slice (h.A 3) (m) (h.c 3)) ∧ w'.rangeAt (w1.heap.size) 0 [.string y.code, .string y.zone, .int .i64 y.kind, .int .i64 y.aisle, .int .i64 y.place, .int .i64 y.vol, .int .i64 y.wei, .bool true])) (n := 6) (by kernel_rfl) ?_
        have ST5 := HST.out _ (Below.refl wB.heap.size wB).drew
        refine LastW.take (i := 1) (v := .pointer (some ⟨w.heap.size, 3, none⟩)) rfl (by kernel_rfl) (by kernel_rfl) (by kernel_rfl) (by kernel_rfl) (by decide) (fun _ _ _ h => h.elim) (.inl ⟨by kernel_rfl, fun w hw => by clear hw; go_simp⟩) ST5 ?_
        (try simp only [Act.put, List.getElem_toArray, List.getElem_cons_succ, List.getElem_cons_zero, List.setIfInBounds_toArray, List.set_cons_zero, List.set_cons_succ])
        refine LastW.take (i := 2) (v := .slice (h.A 3) (m) (h.c 3)) rfl (by kernel_rfl) (by kernel_rfl) (by kernel_rfl) (by kernel_rfl) (by decide) (fun _ _ _ h => h.elim) (.inl ⟨by kernel_rfl, fun w hw => by have hw := hw.1; go_simp⟩) ST5 ?_
        (try simp only [Act.put, List.getElem_toArray, List.getElem_cons_succ, List.getElem_cons_zero, List.setIfInBounds_toArray, List.set_cons_zero, List.set_cons_succ])
        refine LastW.take (i := 3) (v := .agg #[.string y.code, .string y.zone, .int .i64 y.kind, .int .i64 y.aisle, .int .i64 y.place, .int .i64 y.vol, .int .i64 y.wei, .bool true]) rfl (by kernel_rfl) (by kernel_rfl) (by kernel_rfl) (by kernel_rfl) (by decide) (fun _ _ _ h => h.elim) (yieldsIf_load_mid (by kernel_rfl) 41 (.tmp 8) rfl (w1.heap.size) 0 rfl [.string y.code, .string y.zone, .int .i64 y.kind, .int .i64 y.aisle, .int .i64 y.place, .int .i64 y.vol, .int .i64 y.wei, .bool true] _ (fun w h => h.2) huB rfl HSB.out) ST5 ?_
        (try simp only [Act.put, List.getElem_toArray, List.getElem_cons_succ, List.getElem_cons_zero, List.setIfInBounds_toArray, List.set_cons_zero, List.set_cons_succ])
        refine LastW.one (i := 0) (by kernel_rfl) rfl (fun K hK => ?_)
        go_simp
        refine (tabBin_any _).mono ?_
        rintro e w7 ⟨rfl, hb7⟩
        have H7 := Lib.hid ((Below.refl wB.heap.size wB).drew.trans (hb7.mono (Below.refl wB.heap.size wB).drew.size))
        clear hb7
        refine hK.out _ _ (fun _ => HST.out _ H7.out) (fun _ => ?_)
        clear hK K
        (try simp only [Act.put, List.getElem_toArray, List.getElem_cons_succ, List.getElem_cons_zero, List.setIfInBounds_toArray, List.set_cons_zero, List.set_cons_succ])
        have H7W := Lib.hid (HOB.out.trans (H7.out.mono HOB.out.size))
        refine LastW.one (i := 4) (by kernel_rfl) rfl (fun K hK => ?_)
        go_simp
        refine (HPU.out _ (HBW.out _ H7W.out).1).mono ?_
        rintro e w8 ⟨A5, n5, p5, hl5, rfl, hown5, hb8⟩
        have H8 := Lib.hid (H7.out.trans (hb8.mono H7.out.size))
        have H8W := Lib.hid (HOB.out.trans (H8.out.mono HOB.out.size))
        have HO5 := Lib.hid hown5
        have HLE := Lib.hid hl5
        clear hb8 hown5 hl5
        refine hK.out _ _ (fun _ => HST.out _ H8.out) (fun _ => ?_)
        clear hK K
        (try simp only [Act.put, List.getElem_toArray, List.getElem_cons_succ, List.getElem_cons_zero, List.setIfInBounds_toArray, List.set_cons_zero, List.set_cons_succ])
        refine LastW.take (i := 5) (v := .pointer (some ⟨w.heap.size, 3, none⟩)) rfl (by kernel_rfl) (by kernel_rfl) (by kernel_rfl) (by kernel_rfl) (by decide) (fun _ _ _ h => h.elim) (.inl ⟨by kernel_rfl, fun w hw => by clear hw; go_simp⟩) (HST.out _ H8.out) ?_
        (try simp only [Act.put, List.getElem_toArray, List.getElem_cons_succ, List.getElem_cons_zero, List.setIfInBounds_toArray, List.set_cons_zero, List.set_cons_succ])
        refine LastW.one (i := 6) (by kernel_rfl) rfl (fun K hK => ?_)
        have c5 := (HLI.out _ H8W.out).1
        have f5 : w8.frozen? ⟨w.heap.size, 3, none⟩ = false := frozen_of_block (HH.out _ H8W.out)
        have HZ5 := Lib.hid (HZ.out _ H8W.out)
        have HH5 := Lib.hid (HH.out _ H8W.out)
        have HB5 := Lib.hid (HBW.out _ H8W.out)
        go_simp
        refine hK.out _ _ (fun h => absurd rfl h) (fun _ => ?_)
        clear hK K
        (try simp only [Act.put, List.getElem_toArray, List.getElem_cons_succ, List.getElem_cons_zero, List.setIfInBounds_toArray, List.set_cons_zero, List.set_cons_succ])
        refine LastW.done (by kernel_rfl) ?_ _
        refine NoPanic.normal ?_
        have H9 : Hid ((w8.setCell ⟨w.heap.size, 3, none⟩ (.slice A5 n5 p5)).heap[w.heap.size]? = some (.cells (h.set 3 A5 n5 p5).cells 37 (0, 0))) := Lib.hid (by rw [block_setCell HH5.out, h.set_cells _ _ _ 3 (by decide)])
        have HZ6 : Hid ((w8.setCell ⟨w.heap.size, 3, none⟩ (.slice A5 n5 p5)).heap[w.heap.size + 1]? = some (.cells Hs.zero 37 (0, 0))) := Lib.hid ((block_setCell_other (by omega) _).trans HZ5.out)
        have HB6 : Hid (Below w.heap.size w (w8.setCell ⟨w.heap.size, 3, none⟩ (.slice A5 n5 p5))) := Lib.hid (HB5.out.1.setCell (Nat.le_refl _) _)
        have HS4 : Hid (w.heap.size + 1 < w7.heap.size) := Lib.hid (by have := (HBW.out _ H7W.out).2; omega)
        have HO6 : Hid ((w8.setCell ⟨w.heap.size, 3, none⟩ (.slice A5 n5 p5)).ownsRow w7.heap.size 41 8 (.slice A5 n5 p5) n5 l.flatten) := Lib.hid (own_far HO5.out (by have := HS4.out; simp; omega) (Nat.le_refl _))
        generalize w8.setCell ⟨w.heap.size, 3, none⟩ (.slice A5 n5 p5) = w6 at *
        go_wp2_with (first
          | (refine wpList_load_row rfl 37 (.tmp 3) rfl w.heap.size rfl _ _ _ _ H9.out huh rfl (HSH.out _) ?_)
          | (refine wpList_store_row rfl 37 (.tmp 6) (.tmp 41) rfl (w.heap.size + 1) (h.set 3 A5 n5 p5).cells rfl rfl _ _ HZ6.out (HSH.out _) rfl (H1C.out _) ?_)
          | fail)
        exact bodyPost_ret (results_row_tmp rfl _ _ (w.heap.size + 1) _ _ _ _ rfl (setRow_heap _ _ _ _ _ _ HZ6.out) huh rfl (HSH.out _)) rfl ⟨setRow_below HB6.out (by omega) _, .inr ⟨HE.out, A5, n5, p5, HLE.out, own_rowed HO6.out HS4.out (by have := HS4.out; omega), rfl⟩⟩
    | false =>
      cases fz with
      | true =>
        have HE : Hid (er = 0) := Lib.hid (by rw [HA.out]; rfl)
        have H3 := Lib.hid (H1.out.alloc H1.out.size (.cells #[.string y.code, .string y.zone, .int .i64 y.kind, .int .i64 y.aisle, .int .i64 y.place, .int .i64 y.vol, .int .i64 y.wei, .bool false] 41))
        have HXN : Hid ((w1.alloc (.cells #[.string y.code, .string y.zone, .int .i64 y.kind, .int .i64 y.aisle, .int .i64 y.place, .int .i64 y.vol, .int .i64 y.wei, .bool false] 41)).heap[w1.heap.size]? = some (.cells #[.string y.code, .string y.zone, .int .i64 y.kind, .int .i64 y.aisle, .int .i64 y.place, .int .i64 y.vol, .int .i64 y.wei, .bool false] 41 (0, 0))) := Lib.hid (heap_alloc_new _ _)
        obtain ⟨wB, hwB⟩ : ∃ W, W = w1.alloc (.cells #[.string y.code, .string y.zone, .int .i64 y.kind, .int .i64 y.aisle, .int .i64 y.place, .int .i64 y.vol, .int .i64 y.wei, .bool false] 41) := ⟨_, rfl⟩
        have HWB0 := Lib.hid hwB
        have hob := H3.out
        rw [← hwB] at hob
        have HOB := Lib.hid hob
        clear hob
        have HXB : Hid (∀ W, Below wB.heap.size wB W → W.heap[w1.heap.size]? = some (.cells #[.string y.code, .string y.zone, .int .i64 y.kind, .int .i64 y.aisle, .int .i64 y.place, .int .i64 y.vol, .int .i64 y.wei, .bool false] 41 (0, 0))) := Lib.hid (fun W hW => (hW.block _ (by rw [HWB0.out]; exact lt_of_block HXN.out)).trans (by rw [HWB0.out]; exact HXN.out))
        have HST : Hid (∀ W, Below wB.heap.size wB W → W.cell? ⟨w.heap.size, 3, none⟩ = some (.slice (h.A 3) m (h.c 3)) ∧ W.rangeAt (w1.heap.size) 0 [.string y.code, .string y.zone, .int .i64 y.kind, .int .i64 y.aisle, .int .i64 y.place, .int .i64 y.vol, .int .i64 y.wei, .bool false]) := Lib.hid (fun W hW => ⟨(HLI.out W (HOB.out.trans (hW.mono HOB.out.size))).1, range_cells (HXB.out W hW)⟩)
        have HWB := Lib.hid hwB
        clear hwB
        go_upto_region 9 with fail
        rw [← HWB.out]
        go_wp2_with fail
        refine lastW_region (S := (fun w' => w'.cell? ⟨w.heap.size, 3, none⟩ = some (.slice (h.A 3) (m) (h.c 3)) ∧ w'.rangeAt (w1.heap.size) 0 [.string y.code, .string y.zone, .int .i64 y.kind, .int .i64 y.aisle, .int .i64 y.place, .int .i64 y.vol, .int .i64 y.wei, .bool false])) (n := 6) (by kernel_rfl) ?_
        have ST5 := HST.out _ (Below.refl wB.heap.size wB).drew
        refine LastW.take (i := 1) (v := .pointer (some ⟨w.heap.size, 3, none⟩)) rfl (by kernel_rfl) (by kernel_rfl) (by kernel_rfl) (by kernel_rfl) (by decide) (fun _ _ _ h => h.elim) (.inl ⟨by kernel_rfl, fun w hw => by clear hw; go_simp⟩) ST5 ?_
        (try simp only [Act.put, List.getElem_toArray, List.getElem_cons_succ, List.getElem_cons_zero, List.setIfInBounds_toArray, List.set_cons_zero, List.set_cons_succ])
        refine LastW.take (i := 2) (v := .slice (h.A 3) (m) (h.c 3)) rfl (by kernel_rfl) (by kernel_rfl) (by kernel_rfl) (by kernel_rfl) (by decide) (fun _ _ _ h => h.elim) (.inl ⟨by kernel_rfl, fun w hw => by have hw := hw.1; go_simp⟩) ST5 ?_
        (try simp only [Act.put, List.getElem_toArray, List.getElem_cons_succ, List.getElem_cons_zero, List.setIfInBounds_toArray, List.set_cons_zero, List.set_cons_succ])
        refine LastW.take (i := 3) (v := .agg #[.string y.code, .string y.zone, .int .i64 y.kind, .int .i64 y.aisle, .int .i64 y.place, .int .i64 y.vol, .int .i64 y.wei, .bool false]) rfl (by kernel_rfl) (by kernel_rfl) (by kernel_rfl) (by kernel_rfl) (by decide) (fun _ _ _ h => h.elim) (yieldsIf_load_mid (by kernel_rfl) 41 (.tmp 8) rfl (w1.heap.size) 0 rfl [.string y.code, .string y.zone, .int .i64 y.kind, .int .i64 y.aisle, .int .i64 y.place, .int .i64 y.vol, .int .i64 y.wei, .bool false] _ (fun w h => h.2) huB rfl HSB.out) ST5 ?_
        (try simp only [Act.put, List.getElem_toArray, List.getElem_cons_succ, List.getElem_cons_zero, List.setIfInBounds_toArray, List.set_cons_zero, List.set_cons_succ])
        refine LastW.one (i := 0) (by kernel_rfl) rfl (fun K hK => ?_)
        go_simp
        refine (tabBin_any _).mono ?_
        rintro e w7 ⟨rfl, hb7⟩
        have H7 := Lib.hid ((Below.refl wB.heap.size wB).drew.trans (hb7.mono (Below.refl wB.heap.size wB).drew.size))
        clear hb7
        refine hK.out _ _ (fun _ => HST.out _ H7.out) (fun _ => ?_)
        clear hK K
        (try simp only [Act.put, List.getElem_toArray, List.getElem_cons_succ, List.getElem_cons_zero, List.setIfInBounds_toArray, List.set_cons_zero, List.set_cons_succ])
        have H7W := Lib.hid (HOB.out.trans (H7.out.mono HOB.out.size))
        refine LastW.one (i := 4) (by kernel_rfl) rfl (fun K hK => ?_)
        go_simp
        refine (HPU.out _ (HBW.out _ H7W.out).1).mono ?_
        rintro e w8 ⟨A5, n5, p5, hl5, rfl, hown5, hb8⟩
        have H8 := Lib.hid (H7.out.trans (hb8.mono H7.out.size))
        have H8W := Lib.hid (HOB.out.trans (H8.out.mono HOB.out.size))
        have HO5 := Lib.hid hown5
        have HLE := Lib.hid hl5
        clear hb8 hown5 hl5
        refine hK.out _ _ (fun _ => HST.out _ H8.out) (fun _ => ?_)
        clear hK K
        (try simp only [Act.put, List.getElem_toArray, List.getElem_cons_succ, List.getElem_cons_zero, List.setIfInBounds_toArray, List.set_cons_zero, List.set_cons_succ])
        refine LastW.take (i := 5) (v := .pointer (some ⟨w.heap.size, 3, none⟩)) rfl (by kernel_rfl) (by kernel_rfl) (by kernel_rfl) (by kernel_rfl) (by decide) (fun _ _ _ h => h.elim) (.inl ⟨by kernel_rfl, fun w hw => by clear hw; go_simp⟩) (HST.out _ H8.out) ?_
        (try simp only [Act.put, List.getElem_toArray, List.getElem_cons_succ, List.getElem_cons_zero, List.setIfInBounds_toArray, List.set_cons_zero, List.set_cons_succ])
        refine LastW.one (i := 6) (by kernel_rfl) rfl (fun K hK => ?_)
        have c5 := (HLI.out _ H8W.out).1
        have f5 : w8.frozen? ⟨w.heap.size, 3, none⟩ = false := frozen_of_block (HH.out _ H8W.out)
        have HZ5 := Lib.hid (HZ.out _ H8W.out)
        have HH5 := Lib.hid (HH.out _ H8W.out)
        have HB5 := Lib.hid (HBW.out _ H8W.out)
        go_simp
        refine hK.out _ _ (fun h => absurd rfl h) (fun _ => ?_)
        clear hK K
        (try simp only [Act.put, List.getElem_toArray, List.getElem_cons_succ, List.getElem_cons_zero, List.setIfInBounds_toArray, List.set_cons_zero, List.set_cons_succ])
        refine LastW.done (by kernel_rfl) ?_ _
        refine NoPanic.normal ?_
        have H9 : Hid ((w8.setCell ⟨w.heap.size, 3, none⟩ (.slice A5 n5 p5)).heap[w.heap.size]? = some (.cells (h.set 3 A5 n5 p5).cells 37 (0, 0))) := Lib.hid (by rw [block_setCell HH5.out, h.set_cells _ _ _ 3 (by decide)])
        have HZ6 : Hid ((w8.setCell ⟨w.heap.size, 3, none⟩ (.slice A5 n5 p5)).heap[w.heap.size + 1]? = some (.cells Hs.zero 37 (0, 0))) := Lib.hid ((block_setCell_other (by omega) _).trans HZ5.out)
        have HB6 : Hid (Below w.heap.size w (w8.setCell ⟨w.heap.size, 3, none⟩ (.slice A5 n5 p5))) := Lib.hid (HB5.out.1.setCell (Nat.le_refl _) _)
        have HS4 : Hid (w.heap.size + 1 < w7.heap.size) := Lib.hid (by have := (HBW.out _ H7W.out).2; omega)
        have HO6 : Hid ((w8.setCell ⟨w.heap.size, 3, none⟩ (.slice A5 n5 p5)).ownsRow w7.heap.size 41 8 (.slice A5 n5 p5) n5 l.flatten) := Lib.hid (own_far HO5.out (by have := HS4.out; simp; omega) (Nat.le_refl _))
        generalize w8.setCell ⟨w.heap.size, 3, none⟩ (.slice A5 n5 p5) = w6 at *
        go_wp2_with (first
          | (refine wpList_load_row rfl 37 (.tmp 3) rfl w.heap.size rfl _ _ _ _ H9.out huh rfl (HSH.out _) ?_)
          | (refine wpList_store_row rfl 37 (.tmp 6) (.tmp 41) rfl (w.heap.size + 1) (h.set 3 A5 n5 p5).cells rfl rfl _ _ HZ6.out (HSH.out _) rfl (H1C.out _) ?_)
          | fail)
        exact bodyPost_ret (results_row_tmp rfl _ _ (w.heap.size + 1) _ _ _ _ rfl (setRow_heap _ _ _ _ _ _ HZ6.out) huh rfl (HSH.out _)) rfl ⟨setRow_below HB6.out (by omega) _, .inr ⟨HE.out, A5, n5, p5, HLE.out, own_rowed HO6.out HS4.out (by have := HS4.out; omega), rfl⟩⟩
      | false =>
        have HE : Hid (er = 13) := Lib.hid (by rw [HA.out]; rfl)
        go_wp2_with (first
          | (refine wpList_store_row rfl 37 (.tmp 6) (.tmp 32) rfl (w.heap.size + 1) Hs.zero rfl rfl _ _ (HZ.out _ H2.out) HSQ.out rfl H1Q.out ?_)
          | fail)
        exact bodyPost_ret (results_row_tmp rfl _ _ (w.heap.size + 1) _ _ _ _ rfl (setRow_heap _ _ _ _ _ _ (HZ.out _ H2.out)) huh rfl HSQ.out) rfl ⟨setRow_below (HBW.out _ H2.out).1 (by omega) _, .inl ⟨by rw [HE.out]; decide, by rw [HE.out]; rfl⟩⟩

theorem cons : Cons := ⟨caddz_any, caddb_any, fun h L s w hh => fcBin hh s, csite_any, cfreeze_any⟩
end Go.Proofs.Ytejlpmjgdaippaa
