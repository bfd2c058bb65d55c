/-
  CONTRACTS of the reference's AddZone, AddBin, Site, Freeze. (By wip/tools/gen_yref.py.)
-/
import Derived.Test.YtejlpmjgdaippaaOZoneFind
import Derived.Test.YtejlpmjgdaippaaOBinFind
import Derived.Test.YtejlpmjgdaippaaOZoneAdd
import Derived.Test.YtejlpmjgdaippaaOBinAdd
import Derived.Test.YtejlpmjgdaippaaHPut
import Derived.Test.YtejlpmjgdaippaaYPl
import Derived.Test.YtejlpmjgdaippaaIName
import Derived.Deep.CutRange
namespace Go.Proofs.Ytejlpmjgdaippaa
set_option linter.unusedVariables false
open Go.RowKit
open Pl (firstG findG putG)

theorem frZone {h : Hs} {L : Nat → List (List Value)} {w : World} (hh : HT h L w) (s : ByteArray) : Calls Try.prog 25 #[.agg h.cells, .string s] w fun e w' => e = .returned (.tuple #[.agg (gotZone (L 2) s).toArray, .bool (atZone (L 2) s).isSome]) ∧ Below w.heap.size w w' :=
  rfindZone h (L 2) s w (hh 2 (by decide)).1 (hh 2 (by decide)).2.1 (hh 2 (by decide)).2.2.1 (hh 2 (by decide)).2.2.2
theorem frBin {h : Hs} {L : Nat → List (List Value)} {w : World} (hh : HT h L w) (s : ByteArray) : Calls Try.prog 20 #[.agg h.cells, .string s] w fun e w' => e = .returned (.tuple #[.agg (gotBin (L 3) s).toArray, .bool (atBin (L 3) s).isSome]) ∧ Below w.heap.size w w' :=
  rfindBin h (L 3) s w (hh 3 (by decide)).1 (hh 3 (by decide)).2.1 (hh 3 (by decide)).2.2.1 (hh 3 (by decide)).2.2.2
theorem rname_below (s : ByteArray) (hs : s.size ≤ maxLen) (W : World) : Calls Try.prog 43 #[.string s] W fun e w' => e = .returned (.int .i64 (Pl.nmE s : Nat)) ∧ Below W.heap.size W w' := (rname_any s W hs).mono fun e w' ⟨h1, h2⟩ => ⟨h1, by rw [h2]; exact Below.refl _ _⟩
theorem zone_two {h : Hs} {L : Nat → List (List Value)} {w : World} (hh : HT h L w) (s : ByteArray) : ∃ a c, gotZone (L 2) s = [.string a, .string c] ∧ siteZ (gotZone (L 2) s) = c :=
  ⟨_, _, zone_cells (gotZone_fits (hh 2 (by decide)).2.2.1 s), rfl⟩
theorem bin_eight {h : Hs} {L : Nat → List (List Value)} {w : World} (hh : HT h L w) (s : ByteArray) : ∃ x : Bn, gotBin (L 3) s = x.cells ∧ bnOf (gotBin (L 3) s) = x :=
  ⟨_, bn_cells (gotBin_fits (hh 3 (by decide)).2.2.1 s), rfl⟩
/-- What is wrong with a zone, by its parts. -/
def addZB (k1 k2 : Nat) (il : Bool) (n : Nat) : Nat := if k1 ≠ 0 then k1 else if k2 ≠ 0 then k2 else if il = true then 11 else if 16 ≤ n then 14 else 0
/-- What is wrong with a bin, by its parts. -/
def addBB (k : Nat) (iz kb out fz il : Bool) (n : Nat) : Nat := if k ≠ 0 then k else if iz = false then 12 else if kb = true then 23 else if out = true then 5 else if fz = true then 13 else if il = true then 11 else if 64 ≤ n then 15 else 0
/-- What is wrong with freezing, by its parts. -/
def frB (il on fz : Bool) : Nat := if il = false then 12 else if (on && fz) = true then 25 else if (!on && !fz) = true then 13 else 0

set_option maxRecDepth 100000 in
set_option maxHeartbeats 3200000 in
theorem raddz_any (h : Hs) (L : Nat → List (List Value)) (a b : ByteArray) (w : World) (hh : HT h L w) (hn2 : h.n 2 ≤ 1000) (hma : a.size ≤ maxLen) (hmb : b.size ≤ maxLen) :
    Calls Try.prog 14 #[.agg h.cells, .agg #[.string a, .string b]] w (PutP 39 2 2 (addZE (L 2) [.string a, .string b]) (putG ordZone (L 2) [.string a, .string b]) h w) := by
  obtain ⟨ga, gb, hg, _⟩ := zone_two hh a
  have HFZ := Lib.hid (fun W (hW : Below w.heap.size w W) => frZone (hh.below hW) a)
  have HN1 := Lib.hid (rname_below a hma)
  have HN2 := Lib.hid (rname_below b hmb)
  have HPU := Lib.hid (fun W (hW : Below w.heap.size w W) => rZone_any h [.string a, .string b] (L 2) W (zone_fits a b) (hh 2 (by decide)).1 hn2 (hh 2 (by decide)).2.2.1 ((hh.below hW) 2 (by decide)).2.2.2)
  obtain ⟨il, hil⟩ : ∃ q, (atZone (L 2) a).isSome = q := ⟨_, rfl⟩
  obtain ⟨k1, hk1⟩ : ∃ k, Pl.nmE a = k := ⟨_, rfl⟩
  obtain ⟨k2, hk2⟩ : ∃ k, Pl.nmE b = k := ⟨_, rfl⟩
  obtain ⟨er, her⟩ : ∃ r, addZE (L 2) [.string a, .string b] = r := ⟨_, rfl⟩
  have HA : Hid (er = addZB k1 k2 il (h.n 2)) := Lib.hid (by
    rw [← her]
    unfold addZE addZB
    rw [show codeOf [.string a, .string b] = a from rfl, show siteZ [.string a, .string b] = b from rfl, hil, hk1, hk2, (hh 2 (by decide)).1])
  rw [hg, hil] at HFZ
  rw [hk1] at HN1
  rw [hk2] at HN2
  rw [her]
  obtain ⟨m, hmm⟩ : ∃ m, h.n 2 = m := ⟨_, rfl⟩
  rw [hmm] at HA hn2
  have HMM := Lib.hid hmm
  clear hil hk1 hk2 hg hma hmb hmm her
  obtain ⟨W0, hW0⟩ : ∃ W0, W0 = (((w.alloc (.cells h.cells 37)).alloc (.cells #[.string a, .string b] 39)).alloc (.cells #[.slice none 0 0, .slice none 0 0, .slice none 0 0, .slice none 0 0, .slice none 0 0, .slice none 0 0, .slice none 0 0, .slice none 0 0, .slice none 0 0, .slice none 0 0, .slice none 0 0, .slice none 0 0, .slice none 0 0, .slice none 0 0, .int .i64 0] 37)) := ⟨_, rfl⟩
  have hb0 : Below w.heap.size w W0 := by rw [hW0]; exact (((Below.refl _ _).alloc (Nat.le_refl _) _).alloc (by simp <;> omega) _).alloc (by simp <;> omega) _
  have hs0 : W0.heap.size = w.heap.size + 3 := by rw [hW0]; simp
  have HH : Hid (∀ W, Below W0.heap.size W0 W → W.heap[w.heap.size]? = some (.cells h.cells 37 (0, 0))) := Lib.hid (fun W hW => (hW.block _ (by omega)).trans (by
    rw [hW0]
    have hq := heap_alloc_new w (.cells h.cells 37)
    exact (Below.heap_alloc _ _ _ (by simp <;> omega)).trans ((Below.heap_alloc _ _ _ (by simp <;> omega)).trans ((by simpa using hq)))))
  have HX : Hid (∀ W, Below W0.heap.size W0 W → W.heap[w.heap.size + 1]? = some (.cells #[.string a, .string b] 39 (0, 0))) := Lib.hid (fun W hW => (hW.block _ (by omega)).trans (by
    rw [hW0]
    have hq := heap_alloc_new (w.alloc (.cells h.cells 37)) (.cells #[.string a, .string b] 39)
    exact (Below.heap_alloc _ _ _ (by simp <;> omega)).trans ((by simpa using hq))))
  have HZ : Hid (∀ W, Below W0.heap.size W0 W → W.heap[w.heap.size + 2]? = some (.cells Hs.zero 37 (0, 0))) := Lib.hid (fun W hW => (hW.block _ (by omega)).trans (by
    rw [hW0]
    have hq := heap_alloc_new ((w.alloc (.cells h.cells 37)).alloc (.cells #[.string a, .string b] 39)) (.cells #[.slice none 0 0, .slice none 0 0, .slice none 0 0, .slice none 0 0, .slice none 0 0, .slice none 0 0, .slice none 0 0, .slice none 0 0, .slice none 0 0, .slice none 0 0, .slice none 0 0, .slice none 0 0, .slice none 0 0, .slice none 0 0, .int .i64 0] 37)
    exact (by simpa [Hs.zero] using hq)))
  have HBW : Hid (∀ W, Below W0.heap.size W0 W → Below w.heap.size w W ∧ w.heap.size + 3 ≤ W.heap.size) := Lib.hid (fun W hW => ⟨hb0.trans (hW.mono (by omega)), by have := hW.size; omega⟩)
  have huh := Try.underlying37
  have HSH : Hid (∀ a : Hs, (Try.prog.info? 37).map (·.size) = some a.cells.size) := Lib.hid (fun a => by kernel_rfl)
  have HSQ : Hid ((Try.prog.info? 37).map (·.size) = some Hs.zero.size) := Lib.hid (by kernel_rfl)
  have H1C : Hid (∀ a : Hs, a.cells.all (·.oneCell') = true) := Lib.hid (fun a => by simp [Hs.cells, Value.oneCell'])
  have H1Q : Hid (Hs.zero.all (·.oneCell') = true) := Lib.hid (by simp [Hs.zero, Value.oneCell'])
  have huHX := Try.underlying39
  have HSHX : Hid ((Try.prog.info? 39).map (·.size) = some 2) := Lib.hid (by kernel_rfl)
  have HCHX : Hid (∀ W, Below W0.heap.size W0 W → W.cell? ⟨w.heap.size + 1, 0, none⟩ = some (.string a) ∧ W.cell? ⟨w.heap.size + 1, 1, none⟩ = some (.string b) ∧ w.heap.size + 1 < W.heap.size) := Lib.hid (fun W hW => ⟨by rw [cell_of_block (HX.out W hW)]; rfl, by rw [cell_of_block (HX.out W hW)]; rfl, by have := hW.size; omega⟩)
  have HL2 : Hid (∀ W, Below W0.heap.size W0 W → W.cell? ⟨w.heap.size, 2, none⟩ = some (.slice (h.A 2) m (h.c 2)) ∧ w.heap.size < W.heap.size) := Lib.hid (fun W hW => ⟨by rw [cell_of_block (HH.out W hW), ← HMM.out]; rfl, by have := hW.size; omega⟩)
  have hc0 := HCHX.out _ (Below.refl _ _)
  obtain ⟨hx0, hx1, hlthx⟩ := hc0
  have H0 := Lib.hid (Below.refl W0.heap.size W0)
  clear hb0 hs0 hh
  subst hW0
  go_enter Try.func14, Try.ntmps14
  go_wp2_with fail
  refine (HN1.out _).mono ?_
  rintro e w1 ⟨rfl, hb1⟩
  have H1 := Lib.hid (H0.out.trans (hb1.mono H0.out.size))
  clear hb1
  clear hx0 hx1 hlthx
  obtain ⟨hx0, hx1, hlthx⟩ := HCHX.out _ H1.out
  by_cases hk : k1 = 0
  · subst hk
    go_wp2_with fail
    refine (HN2.out _).mono ?_
    rintro e w2 ⟨rfl, hb2⟩
    have H2 := Lib.hid (H1.out.trans (hb2.mono H1.out.size))
    clear hb2
    clear hx0 hx1 hlthx
    obtain ⟨hx0, hx1, hlthx⟩ := HCHX.out _ H2.out
    by_cases hk2 : k2 = 0
    · subst hk2
      go_wp2_with (first
        | (refine wpList_load_row rfl 37 (.tmp 2) rfl w.heap.size rfl _ _ _ _ (HH.out _ H2.out) huh rfl (HSH.out _) ?_)
        | fail)
      refine (HFZ.out _ (HBW.out _ H2.out).1).mono ?_
      rintro e w3 ⟨rfl, hb3⟩
      have H4 := Lib.hid (H2.out.trans (hb3.mono H2.out.size))
      clear hb3
      have H5 := Lib.hid (H4.out.alloc H4.out.size (.cells #[.string ga, .string gb] 39))
      clear hx0 hx1 hlthx
      obtain ⟨hl2, hll⟩ := HL2.out _ H5.out
      cases il with
      | true =>
        have HE : Hid (er = 11) := Lib.hid (by rw [HA.out]; rfl)
        go_wp2_with (first
          | (refine wpList_store_row rfl 37 (.tmp 4) (.tmp 39) rfl (w.heap.size + 2) Hs.zero rfl rfl _ _ (HZ.out _ H5.out) HSQ.out rfl H1Q.out ?_)
          | fail)
        exact bodyPost_ret (results_row_tmp rfl _ _ (w.heap.size + 2) _ _ _ _ rfl (setRow_heap _ _ _ _ _ _ (HZ.out _ H5.out)) huh rfl HSQ.out) rfl ⟨setRow_below (HBW.out _ H5.out).1 (by omega) _, .inl ⟨by rw [HE.out]; decide, by rw [HE.out]; rfl⟩⟩
      | false =>
        by_cases h16 : 16 ≤ m
        · have HE : Hid (er = 14) := Lib.hid (by rw [HA.out]; simp [addZB, h16])
          go_wp2_with (first
            | (refine wpList_store_row rfl 37 (.tmp 4) (.tmp 39) rfl (w.heap.size + 2) Hs.zero rfl rfl _ _ (HZ.out _ H5.out) HSQ.out rfl H1Q.out ?_)
            | fail)
          exact bodyPost_ret (results_row_tmp rfl _ _ (w.heap.size + 2) _ _ _ _ rfl (setRow_heap _ _ _ _ _ _ (HZ.out _ H5.out)) huh rfl HSQ.out) rfl ⟨setRow_below (HBW.out _ H5.out).1 (by omega) _, .inl ⟨by rw [HE.out]; decide, by rw [HE.out]; rfl⟩⟩
        · have HE : Hid (er = 0) := Lib.hid (by rw [HA.out]; simp [addZB, h16])
          go_wp2_with (first
            | (refine wpList_load_row rfl 37 (.tmp 2) rfl w.heap.size rfl _ _ _ _ (HH.out _ H5.out) huh rfl (HSH.out _) ?_)
            | (refine wpList_load_row rfl 39 (.tmp 3) rfl (w.heap.size + 1) rfl _ _ _ _ (HX.out _ H5.out) huHX rfl HSHX.out ?_)
            | fail)
          refine (HPU.out _ (HBW.out _ H5.out).1).mono ?_
          rintro e w4 ⟨hb9, A, n, cc, hl, hown, rfl⟩
          have H9 := Lib.hid (H5.out.trans (hb9.mono H5.out.size))
          have HO9 := Lib.hid hown
          have HLE := Lib.hid hl
          have HSZ9 := Lib.hid (HBW.out _ H5.out).2
          clear hb9 hown hl
          go_wp2_with (first
            | (refine wpList_store_row rfl 37 (.tmp 4) (.tmp 43) rfl (w.heap.size + 2) (h.set 2 A n cc).cells rfl rfl _ _ (HZ.out _ H9.out) (HSH.out _) rfl (H1C.out _) ?_)
            | fail)
          exact bodyPost_ret (results_row_tmp rfl _ _ (w.heap.size + 2) _ _ _ _ rfl (setRow_heap _ _ _ _ _ _ (HZ.out _ H9.out)) huh rfl (HSH.out _)) rfl ⟨setRow_below (HBW.out _ H9.out).1 (by omega) _, .inr ⟨HE.out, A, n, cc, HLE.out, own_rowed HO9.out (by have := HSZ9.out; omega) (by have := HSZ9.out; omega), rfl⟩⟩
    · have HK := Lib.hid hk2
      have hk0 : ((k2 : Int) != 0) = true := by simpa using hk2
      have hk1 : ((k2 : Int) == 0) = false := by simpa using hk2
      have hA2 : addZB 0 k2 il m = k2 := by simp [addZB, hk2]
      rw [hA2] at HA
      clear hA2 hk2
      go_wp2_with (first
        | (refine wpList_load_row rfl 37 (.tmp 2) rfl w.heap.size rfl _ _ _ _ (HH.out _ H2.out) huh rfl (HSH.out _) ?_)
        | fail)
      refine (HFZ.out _ (HBW.out _ H2.out).1).mono ?_
      rintro e w3 ⟨rfl, hb3⟩
      have H4 := Lib.hid (H2.out.trans (hb3.mono H2.out.size))
      clear hb3
      have H5 := Lib.hid (H4.out.alloc H4.out.size (.cells #[.string ga, .string gb] 39))
      clear hx0 hx1 hlthx
      obtain ⟨hl2, hll⟩ := HL2.out _ H5.out
      have HE : Hid (er = k2) := HA
      cases il with
      | true =>
        go_wp2_with (first
          | (refine wpList_store_row rfl 37 (.tmp 4) (.tmp 39) rfl (w.heap.size + 2) Hs.zero rfl rfl _ _ (HZ.out _ H5.out) HSQ.out rfl H1Q.out ?_)
          | fail)
        exact bodyPost_ret (results_row_tmp rfl _ _ (w.heap.size + 2) _ _ _ _ rfl (setRow_heap _ _ _ _ _ _ (HZ.out _ H5.out)) huh rfl HSQ.out) rfl ⟨setRow_below (HBW.out _ H5.out).1 (by omega) _, .inl ⟨by rw [HE.out]; exact HK.out, by rw [HE.out]; rfl⟩⟩
      | false =>
        go_wp2_with (first
          | (refine wpList_store_row rfl 37 (.tmp 4) (.tmp 39) rfl (w.heap.size + 2) Hs.zero rfl rfl _ _ (HZ.out _ H5.out) HSQ.out rfl H1Q.out ?_)
          | fail)
        exact bodyPost_ret (results_row_tmp rfl _ _ (w.heap.size + 2) _ _ _ _ rfl (setRow_heap _ _ _ _ _ _ (HZ.out _ H5.out)) huh rfl HSQ.out) rfl ⟨setRow_below (HBW.out _ H5.out).1 (by omega) _, .inl ⟨by rw [HE.out]; exact HK.out, by rw [HE.out]; rfl⟩⟩
  · have HK := Lib.hid hk
    have hk0 : ((k1 : Int) != 0) = true := by simpa using hk
    have hk1 : ((k1 : Int) == 0) = false := by simpa using hk
    have hA2 : addZB k1 k2 il m = k1 := by simp [addZB, hk]
    rw [hA2] at HA
    clear hA2 hk
    go_wp2_with (first
      | (refine wpList_load_row rfl 37 (.tmp 2) rfl w.heap.size rfl _ _ _ _ (HH.out _ H1.out) huh rfl (HSH.out _) ?_)
      | fail)
    refine (HFZ.out _ (HBW.out _ H1.out).1).mono ?_
    rintro e w3 ⟨rfl, hb3⟩
    have H4 := Lib.hid (H1.out.trans (hb3.mono H1.out.size))
    clear hb3
    have H5 := Lib.hid (H4.out.alloc H4.out.size (.cells #[.string ga, .string gb] 39))
    clear hx0 hx1 hlthx
    obtain ⟨hl2, hll⟩ := HL2.out _ H5.out
    have HE : Hid (er = k1) := HA
    cases il with
    | true =>
      go_wp2_with (first
        | (refine wpList_store_row rfl 37 (.tmp 4) (.tmp 39) rfl (w.heap.size + 2) Hs.zero rfl rfl _ _ (HZ.out _ H5.out) HSQ.out rfl H1Q.out ?_)
        | fail)
      exact bodyPost_ret (results_row_tmp rfl _ _ (w.heap.size + 2) _ _ _ _ rfl (setRow_heap _ _ _ _ _ _ (HZ.out _ H5.out)) huh rfl HSQ.out) rfl ⟨setRow_below (HBW.out _ H5.out).1 (by omega) _, .inl ⟨by rw [HE.out]; exact HK.out, by rw [HE.out]; rfl⟩⟩
    | false =>
      go_wp2_with (first
        | (refine wpList_store_row rfl 37 (.tmp 4) (.tmp 39) rfl (w.heap.size + 2) Hs.zero rfl rfl _ _ (HZ.out _ H5.out) HSQ.out rfl H1Q.out ?_)
        | fail)
      exact bodyPost_ret (results_row_tmp rfl _ _ (w.heap.size + 2) _ _ _ _ rfl (setRow_heap _ _ _ _ _ _ (HZ.out _ H5.out)) huh rfl HSQ.out) rfl ⟨setRow_below (HBW.out _ H5.out).1 (by omega) _, .inl ⟨by rw [HE.out]; exact HK.out, by rw [HE.out]; rfl⟩⟩

set_option maxRecDepth 100000 in
set_option maxHeartbeats 6400000 in
theorem raddb_any (h : Hs) (L : Nat → List (List Value)) (xc xz : ByteArray) (kd ai pl vo we : Int) (fz : Bool) (w : World) (hh : HT h L w) (hn3 : h.n 3 ≤ 1000) (hm : xc.size ≤ maxLen) :
    Calls Try.prog 16 #[.agg h.cells, .agg #[.string xc, .string xz, .int .i64 kd, .int .i64 ai, .int .i64 pl, .int .i64 vo, .int .i64 we, .bool fz]] w (PutP 41 8 3 (addBE (L 2) (L 3) (Bn.mk xc xz kd ai pl vo we fz)) (putG ordBin (L 3) (Bn.mk xc xz kd ai pl vo we fz).cells) h w) := by
  obtain ⟨ga, gb, hg, _⟩ := zone_two hh xz
  obtain ⟨y, hy, _⟩ := bin_eight hh xc
  unfold Bn.cells at hy
  have HFZ := Lib.hid (fun W (hW : Below w.heap.size w W) => frZone (hh.below hW) xz)
  have HFB := Lib.hid (fun W (hW : Below w.heap.size w W) => frBin (hh.below hW) xc)
  have HN1 := Lib.hid (rname_below xc hm)
  have HPU := Lib.hid (fun W (hW : Below w.heap.size w W) => rBin_any h (Bn.mk xc xz kd ai pl vo we fz).cells (L 3) W (Bn.fits _) (hh 3 (by decide)).1 hn3 (hh 3 (by decide)).2.2.1 ((hh.below hW) 3 (by decide)).2.2.2)
  rw [show (Bn.mk xc xz kd ai pl vo we fz).cells.toArray = #[.string xc, .string xz, .int .i64 kd, .int .i64 ai, .int .i64 pl, .int .i64 vo, .int .i64 we, .bool fz] from rfl] at HPU
  obtain ⟨iz, hiz⟩ : ∃ q, (atZone (L 2) xz).isSome = q := ⟨_, rfl⟩
  obtain ⟨il, hil⟩ : ∃ q, (atBin (L 3) xc).isSome = q := ⟨_, rfl⟩
  obtain ⟨k1, hk1⟩ : ∃ k, Pl.nmE xc = k := ⟨_, rfl⟩
  obtain ⟨ob, hob⟩ : ∃ q, Bn.out (Bn.mk xc xz kd ai pl vo we fz) = q := ⟨_, rfl⟩
  obtain ⟨kb, hkb⟩ : ∃ q, decide (kd < 1 ∨ 4 < kd) = q := ⟨_, rfl⟩
  obtain ⟨er, her⟩ : ∃ r, addBE (L 2) (L 3) (Bn.mk xc xz kd ai pl vo we fz) = r := ⟨_, rfl⟩
  have HA : Hid (er = addBB k1 iz kb ob fz il (h.n 3)) := Lib.hid (by
    rw [← her]
    unfold addBE addBB
    simp only []
    rw [hiz, hil, hk1, hob, (hh 3 (by decide)).1, ← hkb]
    simp only [decide_eq_true_eq])
  have HOB : Hid (ob = (decide (ai < 0) || decide (999 < ai) || decide (pl < 0) || decide (999 < pl) || decide (vo < 0) || decide (1000000000000 < vo) || decide (we < 0) || decide (1000000000000 < we))) := Lib.hid (by rw [← hob]; rfl)
  have HKB : Hid (kb = decide (kd < 1 ∨ 4 < kd)) := Lib.hid hkb.symm
  rw [hg, hiz] at HFZ
  rw [hy, hil] at HFB
  rw [hk1] at HN1
  rw [her]
  obtain ⟨m, hmm⟩ : ∃ m, h.n 3 = m := ⟨_, rfl⟩
  rw [hmm] at HA hn3
  have HMM := Lib.hid hmm
  clear hil hiz hk1 hg hy hm hmm her hob hkb
  obtain ⟨W0, hW0⟩ : ∃ W0, W0 = (((w.alloc (.cells h.cells 37)).alloc (.cells #[.string xc, .string xz, .int .i64 kd, .int .i64 ai, .int .i64 pl, .int .i64 vo, .int .i64 we, .bool fz] 41)).alloc (.cells #[.slice none 0 0, .slice none 0 0, .slice none 0 0, .slice none 0 0, .slice none 0 0, .slice none 0 0, .slice none 0 0, .slice none 0 0, .slice none 0 0, .slice none 0 0, .slice none 0 0, .slice none 0 0, .slice none 0 0, .slice none 0 0, .int .i64 0] 37)) := ⟨_, rfl⟩
  have hb0 : Below w.heap.size w W0 := by rw [hW0]; exact (((Below.refl _ _).alloc (Nat.le_refl _) _).alloc (by simp <;> omega) _).alloc (by simp <;> omega) _
  have hs0 : W0.heap.size = w.heap.size + 3 := by rw [hW0]; simp
  have HH : Hid (∀ W, Below W0.heap.size W0 W → W.heap[w.heap.size]? = some (.cells h.cells 37 (0, 0))) := Lib.hid (fun W hW => (hW.block _ (by omega)).trans (by
    rw [hW0]
    have hq := heap_alloc_new w (.cells h.cells 37)
    exact (Below.heap_alloc _ _ _ (by simp <;> omega)).trans ((Below.heap_alloc _ _ _ (by simp <;> omega)).trans ((by simpa using hq)))))
  have HX : Hid (∀ W, Below W0.heap.size W0 W → W.heap[w.heap.size + 1]? = some (.cells #[.string xc, .string xz, .int .i64 kd, .int .i64 ai, .int .i64 pl, .int .i64 vo, .int .i64 we, .bool fz] 41 (0, 0))) := Lib.hid (fun W hW => (hW.block _ (by omega)).trans (by
    rw [hW0]
    have hq := heap_alloc_new (w.alloc (.cells h.cells 37)) (.cells #[.string xc, .string xz, .int .i64 kd, .int .i64 ai, .int .i64 pl, .int .i64 vo, .int .i64 we, .bool fz] 41)
    exact (Below.heap_alloc _ _ _ (by simp <;> omega)).trans ((by simpa using hq))))
  have HZ : Hid (∀ W, Below W0.heap.size W0 W → W.heap[w.heap.size + 2]? = some (.cells Hs.zero 37 (0, 0))) := Lib.hid (fun W hW => (hW.block _ (by omega)).trans (by
    rw [hW0]
    have hq := heap_alloc_new ((w.alloc (.cells h.cells 37)).alloc (.cells #[.string xc, .string xz, .int .i64 kd, .int .i64 ai, .int .i64 pl, .int .i64 vo, .int .i64 we, .bool fz] 41)) (.cells #[.slice none 0 0, .slice none 0 0, .slice none 0 0, .slice none 0 0, .slice none 0 0, .slice none 0 0, .slice none 0 0, .slice none 0 0, .slice none 0 0, .slice none 0 0, .slice none 0 0, .slice none 0 0, .slice none 0 0, .slice none 0 0, .int .i64 0] 37)
    exact (by simpa [Hs.zero] using hq)))
  have HBW : Hid (∀ W, Below W0.heap.size W0 W → Below w.heap.size w W ∧ w.heap.size + 3 ≤ W.heap.size) := Lib.hid (fun W hW => ⟨hb0.trans (hW.mono (by omega)), by have := hW.size; omega⟩)
  have huh := Try.underlying37
  have HSH : Hid (∀ a : Hs, (Try.prog.info? 37).map (·.size) = some a.cells.size) := Lib.hid (fun a => by kernel_rfl)
  have HSQ : Hid ((Try.prog.info? 37).map (·.size) = some Hs.zero.size) := Lib.hid (by kernel_rfl)
  have H1C : Hid (∀ a : Hs, a.cells.all (·.oneCell') = true) := Lib.hid (fun a => by simp [Hs.cells, Value.oneCell'])
  have H1Q : Hid (Hs.zero.all (·.oneCell') = true) := Lib.hid (by simp [Hs.zero, Value.oneCell'])
  have huHX := Try.underlying41
  have HSHX : Hid ((Try.prog.info? 41).map (·.size) = some 8) := Lib.hid (by kernel_rfl)
  have HCHX : Hid (∀ W, Below W0.heap.size W0 W → W.cell? ⟨w.heap.size + 1, 0, none⟩ = some (.string xc) ∧ W.cell? ⟨w.heap.size + 1, 1, none⟩ = some (.string xz) ∧ W.cell? ⟨w.heap.size + 1, 2, none⟩ = some (.int .i64 kd) ∧ W.cell? ⟨w.heap.size + 1, 3, none⟩ = some (.int .i64 ai) ∧ W.cell? ⟨w.heap.size + 1, 4, none⟩ = some (.int .i64 pl) ∧ W.cell? ⟨w.heap.size + 1, 5, none⟩ = some (.int .i64 vo) ∧ W.cell? ⟨w.heap.size + 1, 6, none⟩ = some (.int .i64 we) ∧ W.cell? ⟨w.heap.size + 1, 7, none⟩ = some (.bool fz) ∧ w.heap.size + 1 < W.heap.size) := Lib.hid (fun W hW => ⟨by rw [cell_of_block (HX.out W hW)]; rfl, by rw [cell_of_block (HX.out W hW)]; rfl, by rw [cell_of_block (HX.out W hW)]; rfl, by rw [cell_of_block (HX.out W hW)]; rfl, by rw [cell_of_block (HX.out W hW)]; rfl, by rw [cell_of_block (HX.out W hW)]; rfl, by rw [cell_of_block (HX.out W hW)]; rfl, by rw [cell_of_block (HX.out W hW)]; rfl, by have := hW.size; omega⟩)
  have HL3 : Hid (∀ W, Below W0.heap.size W0 W → W.cell? ⟨w.heap.size, 3, none⟩ = some (.slice (h.A 3) m (h.c 3)) ∧ w.heap.size < W.heap.size) := Lib.hid (fun W hW => ⟨by rw [cell_of_block (HH.out W hW), ← HMM.out]; rfl, by have := hW.size; omega⟩)
  have hc0 := HCHX.out _ (Below.refl _ _)
  obtain ⟨hx0, hx1, hx2, hx3, hx4, hx5, hx6, hx7, hlthx⟩ := hc0
  have H0 := Lib.hid (Below.refl W0.heap.size W0)
  clear hb0 hs0 hh
  subst hW0
  go_enter Try.func16, Try.ntmps16
  go_wp2_with fail
  refine (HN1.out _).mono ?_
  rintro e w1 ⟨rfl, hb1⟩
  have H1 := Lib.hid (H0.out.trans (hb1.mono H0.out.size))
  clear hb1
  clear hx0 hx1 hx2 hx3 hx4 hx5 hx6 hx7 hlthx
  obtain ⟨hx0, hx1, hx2, hx3, hx4, hx5, hx6, hx7, hlthx⟩ := HCHX.out _ H1.out
  by_cases hk : k1 = 0
  · subst hk
    go_wp2_with (first
      | (refine wpList_load_row rfl 37 (.tmp 2) rfl w.heap.size rfl _ _ _ _ (HH.out _ H1.out) huh rfl (HSH.out _) ?_)
      | fail)
    refine (HFZ.out _ (HBW.out _ H1.out).1).mono ?_
    rintro e w3 ⟨rfl, hb3⟩
    have H4 := Lib.hid (H1.out.trans (hb3.mono H1.out.size))
    clear hb3
    have H5 := Lib.hid (H4.out.alloc H4.out.size (.cells #[.string ga, .string gb] 39))
    clear hx0 hx1 hx2 hx3 hx4 hx5 hx6 hx7 hlthx
    obtain ⟨hx0, hx1, hx2, hx3, hx4, hx5, hx6, hx7, hlthx⟩ := HCHX.out _ H5.out
    cases iz with
    | false =>
      have HE : Hid (er = 12) := Lib.hid (by rw [HA.out]; rfl)
      go_wp2_with (first
        | (refine wpList_store_row rfl 37 (.tmp 4) (.tmp 27) rfl (w.heap.size + 2) Hs.zero rfl rfl _ _ (HZ.out _ H5.out) HSQ.out rfl H1Q.out ?_)
        | fail)
      exact bodyPost_ret (results_row_tmp rfl _ _ (w.heap.size + 2) _ _ _ _ rfl (setRow_heap _ _ _ _ _ _ (HZ.out _ H5.out)) huh rfl HSQ.out) rfl ⟨setRow_below (HBW.out _ H5.out).1 (by omega) _, .inl ⟨by rw [HE.out]; decide, by rw [HE.out]; rfl⟩⟩
    | true =>
      go_upto_region 7 with fail
      go_cut [45] from 28 to 46 (fun q wx => q = .bool kb ∧ wx = w3.alloc (.cells #[.string ga, .string gb] 39))
      case first =>
        rcases Classical.em (kd = 1) with q1 | q1
        · subst q1; go_wp2_with fail; go_meet; exact ⟨congrArg Value.bool (by rw [HKB.out]; rfl), rfl⟩
        rcases Classical.em (kd = 2) with q2 | q2
        · subst q2; go_wp2_with fail; go_meet; exact ⟨congrArg Value.bool (by rw [HKB.out]; rfl), rfl⟩
        rcases Classical.em (kd = 3) with q3 | q3
        · subst q3; go_wp2_with fail; go_meet; exact ⟨congrArg Value.bool (by rw [HKB.out]; rfl), rfl⟩
        rcases Classical.em (kd = 4) with q4 | q4
        · subst q4; go_wp2_with fail; go_meet; exact ⟨congrArg Value.bool (by rw [HKB.out]; rfl), rfl⟩
        have q5 : (kd != 1) = true := by simpa using q1
        have q6 : (kd != 2) = true := by simpa using q2
        have q7 : (kd != 3) = true := by simpa using q3
        have q8 : (kd != 4) = true := by simpa using q4
        go_wp2_with fail; go_meet; exact ⟨congrArg Value.bool (by rw [HKB.out]; symm; exact decide_eq_true (by omega)), rfl⟩
      case rest =>
        obtain ⟨rfl, rfl⟩ := hcut
        cases kb with
        | true =>
          have HE : Hid (er = 23) := Lib.hid (by rw [HA.out]; rfl)
          go_wp2_with (first
            | (refine wpList_store_row rfl 37 (.tmp 4) (.tmp 46) rfl (w.heap.size + 2) Hs.zero rfl rfl _ _ (HZ.out _ H5.out) HSQ.out rfl H1Q.out ?_)
            | fail)
          exact bodyPost_ret (results_row_tmp rfl _ _ (w.heap.size + 2) _ _ _ _ rfl (setRow_heap _ _ _ _ _ _ (HZ.out _ H5.out)) huh rfl HSQ.out) rfl ⟨setRow_below (HBW.out _ H5.out).1 (by omega) _, .inl ⟨by rw [HE.out]; decide, by rw [HE.out]; rfl⟩⟩
        | false =>
          go_upto_region 9 with fail
          go_cut [84] from 47 to 85 (fun q wx => q = .bool ob ∧ wx = w3.alloc (.cells #[.string ga, .string gb] 39))
          case first =>
            by_cases q0 : ai < 0
            · go_wp2_with fail
              go_meet
              exact ⟨congrArg Value.bool (by rw [HOB.out]; simp [q0]), rfl⟩
            ·
              by_cases q1 : 999 < ai
              · go_wp2_with fail
                go_meet
                exact ⟨congrArg Value.bool (by rw [HOB.out]; simp [q1]), rfl⟩
              ·
                by_cases q2 : pl < 0
                · go_wp2_with fail
                  go_meet
                  exact ⟨congrArg Value.bool (by rw [HOB.out]; simp [q2]), rfl⟩
                ·
                  by_cases q3 : 999 < pl
                  · go_wp2_with fail
                    go_meet
                    exact ⟨congrArg Value.bool (by rw [HOB.out]; simp [q3]), rfl⟩
                  ·
                    by_cases q4 : vo < 0
                    · go_wp2_with fail
                      go_meet
                      exact ⟨congrArg Value.bool (by rw [HOB.out]; simp [q4]), rfl⟩
                    ·
                      by_cases q5 : 1000000000000 < vo
                      · go_wp2_with fail
                        go_meet
                        exact ⟨congrArg Value.bool (by rw [HOB.out]; simp [q5]), rfl⟩
                      ·
                        by_cases q6 : we < 0
                        · go_wp2_with fail
                          go_meet
                          exact ⟨congrArg Value.bool (by rw [HOB.out]; simp [q6]), rfl⟩
                        ·
                          by_cases q7 : 1000000000000 < we
                          · go_wp2_with fail
                            go_meet
                            exact ⟨congrArg Value.bool (by rw [HOB.out]; simp [q7]), rfl⟩
                          ·
                            go_wp2_with fail
                            go_meet
                            exact ⟨congrArg Value.bool (by rw [HOB.out]; simp [q0, q1, q2, q3, q4, q5, q6, q7]), rfl⟩
          case rest =>
            obtain ⟨rfl, rfl⟩ := hcut
            cases ob with
            | true =>
              have HE : Hid (er = 5) := Lib.hid (by rw [HA.out]; rfl)
              go_wp2_with (first
                | (refine wpList_store_row rfl 37 (.tmp 4) (.tmp 85) rfl (w.heap.size + 2) Hs.zero rfl rfl _ _ (HZ.out _ H5.out) HSQ.out rfl H1Q.out ?_)
                | fail)
              exact bodyPost_ret (results_row_tmp rfl _ _ (w.heap.size + 2) _ _ _ _ rfl (setRow_heap _ _ _ _ _ _ (HZ.out _ H5.out)) huh rfl HSQ.out) rfl ⟨setRow_below (HBW.out _ H5.out).1 (by omega) _, .inl ⟨by rw [HE.out]; decide, by rw [HE.out]; rfl⟩⟩
            | false =>
              cases fz with
              | true =>
                have HE : Hid (er = 13) := Lib.hid (by rw [HA.out]; rfl)
                go_wp2_with (first
                  | (refine wpList_store_row rfl 37 (.tmp 4) (.tmp 88) rfl (w.heap.size + 2) Hs.zero rfl rfl _ _ (HZ.out _ H5.out) HSQ.out rfl H1Q.out ?_)
                  | fail)
                exact bodyPost_ret (results_row_tmp rfl _ _ (w.heap.size + 2) _ _ _ _ rfl (setRow_heap _ _ _ _ _ _ (HZ.out _ H5.out)) huh rfl HSQ.out) rfl ⟨setRow_below (HBW.out _ H5.out).1 (by omega) _, .inl ⟨by rw [HE.out]; decide, by rw [HE.out]; rfl⟩⟩
              | false =>
                go_wp2_with (first
                  | (refine wpList_load_row rfl 37 (.tmp 2) rfl w.heap.size rfl _ _ _ _ (HH.out _ H5.out) huh rfl (HSH.out _) ?_)
                  | fail)
                refine (HFB.out _ (HBW.out _ H5.out).1).mono ?_
                rintro e w4 ⟨rfl, hb4⟩
                have H6 := Lib.hid (H5.out.trans (hb4.mono H5.out.size))
                clear hb4
                have H7 := Lib.hid (H6.out.alloc H6.out.size (.cells #[.string y.code, .string y.zone, .int .i64 y.kind, .int .i64 y.aisle, .int .i64 y.place, .int .i64 y.vol, .int .i64 y.wei, .bool y.frz] 41))
                clear hx0 hx1 hx2 hx3 hx4 hx5 hx6 hx7 hlthx
                obtain ⟨hl3, hll⟩ := HL3.out _ H7.out
                cases il with
                | true =>
                  have HE : Hid (er = 11) := Lib.hid (by rw [HA.out]; rfl)
                  go_wp2_with (first
                    | (refine wpList_store_row rfl 37 (.tmp 4) (.tmp 97) rfl (w.heap.size + 2) Hs.zero rfl rfl _ _ (HZ.out _ H7.out) HSQ.out rfl H1Q.out ?_)
                    | fail)
                  exact bodyPost_ret (results_row_tmp rfl _ _ (w.heap.size + 2) _ _ _ _ rfl (setRow_heap _ _ _ _ _ _ (HZ.out _ H7.out)) huh rfl HSQ.out) rfl ⟨setRow_below (HBW.out _ H7.out).1 (by omega) _, .inl ⟨by rw [HE.out]; decide, by rw [HE.out]; rfl⟩⟩
                | false =>
                  by_cases h64 : 64 ≤ m
                  · have HE : Hid (er = 15) := Lib.hid (by rw [HA.out]; simp [addBB, h64])
                    go_wp2_with (first
                      | (refine wpList_store_row rfl 37 (.tmp 4) (.tmp 102) rfl (w.heap.size + 2) Hs.zero rfl rfl _ _ (HZ.out _ H7.out) HSQ.out rfl H1Q.out ?_)
                      | fail)
                    exact bodyPost_ret (results_row_tmp rfl _ _ (w.heap.size + 2) _ _ _ _ rfl (setRow_heap _ _ _ _ _ _ (HZ.out _ H7.out)) huh rfl HSQ.out) rfl ⟨setRow_below (HBW.out _ H7.out).1 (by omega) _, .inl ⟨by rw [HE.out]; decide, by rw [HE.out]; rfl⟩⟩
                  · have HE : Hid (er = 0) := Lib.hid (by rw [HA.out]; simp [addBB, h64])
                    go_wp2_with (first
                      | (refine wpList_load_row rfl 37 (.tmp 2) rfl w.heap.size rfl _ _ _ _ (HH.out _ H7.out) huh rfl (HSH.out _) ?_)
                      | (refine wpList_load_row rfl 41 (.tmp 3) rfl (w.heap.size + 1) rfl _ _ _ _ (HX.out _ H7.out) huHX rfl HSHX.out ?_)
                      | fail)
                    refine (HPU.out _ (HBW.out _ H7.out).1).mono ?_
                    rintro e w5 ⟨hb9, A, n, cc, hl, hown, rfl⟩
                    have H9 := Lib.hid (H7.out.trans (hb9.mono H7.out.size))
                    have HO9 := Lib.hid hown
                    have HLE := Lib.hid hl
                    have HSZ9 := Lib.hid (HBW.out _ H7.out).2
                    clear hb9 hown hl
                    go_wp2_with (first
                      | (refine wpList_store_row rfl 37 (.tmp 4) (.tmp 105) rfl (w.heap.size + 2) (h.set 3 A n cc).cells rfl rfl _ _ (HZ.out _ H9.out) (HSH.out _) rfl (H1C.out _) ?_)
                      | fail)
                    exact bodyPost_ret (results_row_tmp rfl _ _ (w.heap.size + 2) _ _ _ _ rfl (setRow_heap _ _ _ _ _ _ (HZ.out _ H9.out)) huh rfl (HSH.out _)) rfl ⟨setRow_below (HBW.out _ H9.out).1 (by omega) _, .inr ⟨HE.out, A, n, cc, HLE.out, own_rowed HO9.out (by have := HSZ9.out; omega) (by have := HSZ9.out; omega), rfl⟩⟩
  · have HK := Lib.hid hk
    have hk0 : ((k1 : Int) != 0) = true := by simpa using hk
    have HE : Hid (er = k1) := Lib.hid (by rw [HA.out]; simp [addBB, hk])
    clear hk
    go_wp2_with (first
      | (refine wpList_store_row rfl 37 (.tmp 4) (.tmp 16) rfl (w.heap.size + 2) Hs.zero rfl rfl _ _ (HZ.out _ H1.out) HSQ.out rfl H1Q.out ?_)
      | fail)
    exact bodyPost_ret (results_row_tmp rfl _ _ (w.heap.size + 2) _ _ _ _ rfl (setRow_heap _ _ _ _ _ _ (HZ.out _ H1.out)) huh rfl HSQ.out) rfl ⟨setRow_below (HBW.out _ H1.out).1 (by omega) _, .inl ⟨by rw [HE.out]; exact HK.out, by rw [HE.out]; rfl⟩⟩

set_option maxRecDepth 100000 in
set_option maxHeartbeats 1600000 in
theorem rsite_any (h : Hs) (L : Nat → List (List Value)) (s : ByteArray) (w : World) (hh : HT h L w) :
    Calls Try.prog 24 #[.agg h.cells, .string s] w fun e w' => e = .returned (.string (siteT (L 2) (L 3) s)) ∧ Below w.heap.size w w' := by
  obtain ⟨y, hy, hyb⟩ := bin_eight hh s
  obtain ⟨ga, gb, hg, hgs⟩ := zone_two hh y.zone
  have HFB := Lib.hid (fun W (hW : Below w.heap.size w W) => frBin (hh.below hW) s)
  have HFZ := Lib.hid (fun W (hW : Below w.heap.size w W) => frZone (hh.below hW) y.zone)
  obtain ⟨il, hil⟩ : ∃ q, (atBin (L 3) s).isSome = q := ⟨_, rfl⟩
  obtain ⟨iz, hiz⟩ : ∃ q, (atZone (L 2) y.zone).isSome = q := ⟨_, rfl⟩
  obtain ⟨r, hr⟩ : ∃ r, siteT (L 2) (L 3) s = r := ⟨_, rfl⟩
  have HA : Hid (r = if il = true then gb else ⟨#[]⟩) := Lib.hid (by rw [← hr]; unfold siteT; rw [hil, hyb, hgs])
  rw [hy, hil] at HFB
  unfold Bn.cells at HFB
  rw [hg, hiz] at HFZ
  rw [hr]
  clear hr hil hiz hy hyb hg hgs
  obtain ⟨W0, hW0⟩ : ∃ W0, W0 = (w.alloc (.cells h.cells 37)) := ⟨_, rfl⟩
  have hb0 : Below w.heap.size w W0 := by rw [hW0]; exact (Below.refl _ _).alloc (Nat.le_refl _) _
  have hs0 : W0.heap.size = w.heap.size + 1 := by rw [hW0]; simp
  have HH : Hid (∀ W, Below W0.heap.size W0 W → W.heap[w.heap.size]? = some (.cells h.cells 37 (0, 0))) := Lib.hid (fun W hW => (hW.block _ (by omega)).trans (by
    rw [hW0]
    have hq := heap_alloc_new w (.cells h.cells 37)
    exact (by simpa using hq)))
  have HBW : Hid (∀ W, Below W0.heap.size W0 W → Below w.heap.size w W ∧ w.heap.size + 1 ≤ W.heap.size) := Lib.hid (fun W hW => ⟨hb0.trans (hW.mono (by omega)), by have := hW.size; omega⟩)
  have huh := Try.underlying37
  have HSH : Hid (∀ a : Hs, (Try.prog.info? 37).map (·.size) = some a.cells.size) := Lib.hid (fun a => by kernel_rfl)
  have H0 := Lib.hid (Below.refl W0.heap.size W0)
  clear hb0 hs0 hh
  subst hW0
  go_enter Try.func24, Try.ntmps24
  go_wp2_with (first
    | (refine wpList_load_row rfl 37 (.tmp 2) rfl w.heap.size rfl _ _ _ _ (HH.out _ H0.out) huh rfl (HSH.out _) ?_)
    | fail)
  refine (HFB.out _ (HBW.out _ H0.out).1).mono ?_
  rintro e w1 ⟨rfl, hb1⟩
  have H1 := Lib.hid (H0.out.trans (hb1.mono H0.out.size))
  clear hb1
  have H2 := Lib.hid (H1.out.alloc H1.out.size (.cells #[.string y.code, .string y.zone, .int .i64 y.kind, .int .i64 y.aisle, .int .i64 y.place, .int .i64 y.vol, .int .i64 y.wei, .bool y.frz] 41))
  cases il with
  | false =>
    have HE : Hid (r = ⟨#[]⟩) := Lib.hid (by rw [HA.out]; rfl)
    go_wp2_with fail
    go_ret
    exact ⟨by rw [HE.out]; rfl, (HBW.out _ H2.out).1⟩
  | true =>
    have HE : Hid (r = gb) := Lib.hid (by rw [HA.out]; rfl)
    go_wp2_with (first
      | (refine wpList_load_row rfl 37 (.tmp 2) rfl w.heap.size rfl _ _ _ _ (HH.out _ H2.out) huh rfl (HSH.out _) ?_)
      | fail)
    refine (HFZ.out _ (HBW.out _ H2.out).1).mono ?_
    rintro e w2 ⟨rfl, hb2⟩
    have H3 := Lib.hid (H2.out.trans (hb2.mono H2.out.size))
    clear hb2
    have H4 := Lib.hid (H3.out.alloc H3.out.size (.cells #[.string ga, .string gb] 39))
    go_wp2_with fail
    go_ret
    exact ⟨by rw [HE.out]; rfl, (HBW.out _ H4.out).1⟩

set_option maxRecDepth 100000 in
set_option maxHeartbeats 3200000 in
theorem rfreeze_any (h : Hs) (L : Nat → List (List Value)) (s : ByteArray) (on : Bool) (w : World) (hh : HT h L w) (hn3 : h.n 3 ≤ 1000) :
    Calls Try.prog 22 #[.agg h.cells, .string s, .bool on] w (PutP 41 8 3 (frE (L 3) s on) (frL (L 3) s on) h w) := by
  obtain ⟨y, hy, hyb⟩ := bin_eight hh s
  have HFB := Lib.hid (fun W (hW : Below w.heap.size w W) => frBin (hh.below hW) s)
  have HPU := Lib.hid (fun W (hW : Below w.heap.size w W) => rBin_any h (y.set on).cells (L 3) W (Bn.fits _) (hh 3 (by decide)).1 hn3 (hh 3 (by decide)).2.2.1 ((hh.below hW) 3 (by decide)).2.2.2)
  rw [show (y.set on).cells.toArray = #[.string y.code, .string y.zone, .int .i64 y.kind, .int .i64 y.aisle, .int .i64 y.place, .int .i64 y.vol, .int .i64 y.wei, .bool on] from rfl] at HPU
  obtain ⟨il, hil⟩ : ∃ q, (atBin (L 3) s).isSome = q := ⟨_, rfl⟩
  obtain ⟨fz, hfz⟩ : ∃ q, y.frz = q := ⟨_, rfl⟩
  obtain ⟨er, her⟩ : ∃ r, frE (L 3) s on = r := ⟨_, rfl⟩
  have HA : Hid (er = frB il on fz) := Lib.hid (by rw [← her]; unfold frE frB; rw [hil, hyb, hfz])
  have HL : Hid (frL (L 3) s on = putG ordBin (L 3) (y.set on).cells) := Lib.hid (by unfold frL; rw [hyb])
  rw [hy, hil] at HFB
  unfold Bn.cells at HFB
  rw [hfz] at HFB
  rw [her, HL.out]
  clear her hil hfz hy hyb
  obtain ⟨W0, hW0⟩ : ∃ W0, W0 = ((w.alloc (.cells h.cells 37)).alloc (.cells #[.slice none 0 0, .slice none 0 0, .slice none 0 0, .slice none 0 0, .slice none 0 0, .slice none 0 0, .slice none 0 0, .slice none 0 0, .slice none 0 0, .slice none 0 0, .slice none 0 0, .slice none 0 0, .slice none 0 0, .slice none 0 0, .int .i64 0] 37)) := ⟨_, rfl⟩
  have hb0 : Below w.heap.size w W0 := by rw [hW0]; exact ((Below.refl _ _).alloc (Nat.le_refl _) _).alloc (by simp <;> omega) _
  have hs0 : W0.heap.size = w.heap.size + 2 := by rw [hW0]; simp
  have HH : Hid (∀ W, Below W0.heap.size W0 W → W.heap[w.heap.size]? = some (.cells h.cells 37 (0, 0))) := Lib.hid (fun W hW => (hW.block _ (by omega)).trans (by
    rw [hW0]
    have hq := heap_alloc_new w (.cells h.cells 37)
    exact (Below.heap_alloc _ _ _ (by simp <;> omega)).trans ((by simpa using hq))))
  have HZ : Hid (∀ W, Below W0.heap.size W0 W → W.heap[w.heap.size + 1]? = some (.cells Hs.zero 37 (0, 0))) := Lib.hid (fun W hW => (hW.block _ (by omega)).trans (by
    rw [hW0]
    have hq := heap_alloc_new (w.alloc (.cells h.cells 37)) (.cells #[.slice none 0 0, .slice none 0 0, .slice none 0 0, .slice none 0 0, .slice none 0 0, .slice none 0 0, .slice none 0 0, .slice none 0 0, .slice none 0 0, .slice none 0 0, .slice none 0 0, .slice none 0 0, .slice none 0 0, .slice none 0 0, .int .i64 0] 37)
    exact (by simpa [Hs.zero] using hq)))
  have HBW : Hid (∀ W, Below W0.heap.size W0 W → Below w.heap.size w W ∧ w.heap.size + 2 ≤ W.heap.size) := Lib.hid (fun W hW => ⟨hb0.trans (hW.mono (by omega)), by have := hW.size; omega⟩)
  have huh := Try.underlying37
  have HSH : Hid (∀ a : Hs, (Try.prog.info? 37).map (·.size) = some a.cells.size) := Lib.hid (fun a => by kernel_rfl)
  have HSQ : Hid ((Try.prog.info? 37).map (·.size) = some Hs.zero.size) := Lib.hid (by kernel_rfl)
  have H1C : Hid (∀ a : Hs, a.cells.all (·.oneCell') = true) := Lib.hid (fun a => by simp [Hs.cells, Value.oneCell'])
  have H1Q : Hid (Hs.zero.all (·.oneCell') = true) := Lib.hid (by simp [Hs.zero, Value.oneCell'])
  have H0 := Lib.hid (Below.refl W0.heap.size W0)
  clear hb0 hs0 hh
  subst hW0
  go_enter Try.func22, Try.ntmps22
  go_wp2_with (first
    | (refine wpList_load_row rfl 37 (.tmp 3) rfl w.heap.size rfl _ _ _ _ (HH.out _ H0.out) huh rfl (HSH.out _) ?_)
    | fail)
  refine (HFB.out _ (HBW.out _ H0.out).1).mono ?_
  rintro e w1 ⟨rfl, hb1⟩
  have H1 := Lib.hid (H0.out.trans (hb1.mono H0.out.size))
  clear hb1
  have H2 := Lib.hid (H1.out.alloc H1.out.size (.cells #[.string y.code, .string y.zone, .int .i64 y.kind, .int .i64 y.aisle, .int .i64 y.place, .int .i64 y.vol, .int .i64 y.wei, .bool fz] 41))
  cases il with
  | false =>
    have HE : Hid (er = 12) := Lib.hid (by rw [HA.out]; rfl)
    go_wp2_with (first
      | (refine wpList_store_row rfl 37 (.tmp 6) (.tmp 18) rfl (w.heap.size + 1) Hs.zero rfl rfl _ _ (HZ.out _ H2.out) HSQ.out rfl H1Q.out ?_)
      | fail)
    exact bodyPost_ret (results_row_tmp rfl _ _ (w.heap.size + 1) _ _ _ _ rfl (setRow_heap _ _ _ _ _ _ (HZ.out _ H2.out)) huh rfl HSQ.out) rfl ⟨setRow_below (HBW.out _ H2.out).1 (by omega) _, .inl ⟨by rw [HE.out]; decide, by rw [HE.out]; rfl⟩⟩
  | true =>
    cases on with
    | true =>
      cases fz with
      | true =>
        have HE : Hid (er = 25) := Lib.hid (by rw [HA.out]; rfl)
        go_wp2_with (first
          | (refine wpList_store_row rfl 37 (.tmp 6) (.tmp 24) rfl (w.heap.size + 1) Hs.zero rfl rfl _ _ (HZ.out _ H2.out) HSQ.out rfl H1Q.out ?_)
          | fail)
        exact bodyPost_ret (results_row_tmp rfl _ _ (w.heap.size + 1) _ _ _ _ rfl (setRow_heap _ _ _ _ _ _ (HZ.out _ H2.out)) huh rfl HSQ.out) rfl ⟨setRow_below (HBW.out _ H2.out).1 (by omega) _, .inl ⟨by rw [HE.out]; decide, by rw [HE.out]; rfl⟩⟩
      | false =>
        have HE : Hid (er = 0) := Lib.hid (by rw [HA.out]; rfl)
        have H3 := Lib.hid (H1.out.alloc H1.out.size (.cells #[.string y.code, .string y.zone, .int .i64 y.kind, .int .i64 y.aisle, .int .i64 y.place, .int .i64 y.vol, .int .i64 y.wei, .bool true] 41))
        go_wp2_with (first
          | (refine wpList_load_row rfl 37 (.tmp 3) rfl w.heap.size rfl _ _ _ _ (HH.out _ H3.out) huh rfl (HSH.out _) ?_)
          | fail)
        refine (HPU.out _ (HBW.out _ H3.out).1).mono ?_
        rintro e w3 ⟨hb9, A, n, cc, hl, hown, rfl⟩
        have H9 := Lib.hid (H3.out.trans (hb9.mono H3.out.size))
        have HO9 := Lib.hid hown
        have HLE := Lib.hid hl
        have HSZ9 := Lib.hid (HBW.out _ H3.out).2
        clear hb9 hown hl
        go_wp2_with (first
          | (refine wpList_store_row rfl 37 (.tmp 6) (.tmp 37) rfl (w.heap.size + 1) (h.set 3 A n cc).cells rfl rfl _ _ (HZ.out _ H9.out) (HSH.out _) rfl (H1C.out _) ?_)
          | fail)
        exact bodyPost_ret (results_row_tmp rfl _ _ (w.heap.size + 1) _ _ _ _ rfl (setRow_heap _ _ _ _ _ _ (HZ.out _ H9.out)) huh rfl (HSH.out _)) rfl ⟨setRow_below (HBW.out _ H9.out).1 (by omega) _, .inr ⟨HE.out, A, n, cc, HLE.out, own_rowed HO9.out (by have := HSZ9.out; omega) (by have := HSZ9.out; omega), rfl⟩⟩
    | false =>
      cases fz with
      | true =>
        have HE : Hid (er = 0) := Lib.hid (by rw [HA.out]; rfl)
        have H3 := Lib.hid (H1.out.alloc H1.out.size (.cells #[.string y.code, .string y.zone, .int .i64 y.kind, .int .i64 y.aisle, .int .i64 y.place, .int .i64 y.vol, .int .i64 y.wei, .bool false] 41))
        go_wp2_with (first
          | (refine wpList_load_row rfl 37 (.tmp 3) rfl w.heap.size rfl _ _ _ _ (HH.out _ H3.out) huh rfl (HSH.out _) ?_)
          | fail)
        refine (HPU.out _ (HBW.out _ H3.out).1).mono ?_
        rintro e w3 ⟨hb9, A, n, cc, hl, hown, rfl⟩
        have H9 := Lib.hid (H3.out.trans (hb9.mono H3.out.size))
        have HO9 := Lib.hid hown
        have HLE := Lib.hid hl
        have HSZ9 := Lib.hid (HBW.out _ H3.out).2
        clear hb9 hown hl
        go_wp2_with (first
          | (refine wpList_store_row rfl 37 (.tmp 6) (.tmp 37) rfl (w.heap.size + 1) (h.set 3 A n cc).cells rfl rfl _ _ (HZ.out _ H9.out) (HSH.out _) rfl (H1C.out _) ?_)
          | fail)
        exact bodyPost_ret (results_row_tmp rfl _ _ (w.heap.size + 1) _ _ _ _ rfl (setRow_heap _ _ _ _ _ _ (HZ.out _ H9.out)) huh rfl (HSH.out _)) rfl ⟨setRow_below (HBW.out _ H9.out).1 (by omega) _, .inr ⟨HE.out, A, n, cc, HLE.out, own_rowed HO9.out (by have := HSZ9.out; omega) (by have := HSZ9.out; omega), rfl⟩⟩
      | false =>
        have HE : Hid (er = 13) := Lib.hid (by rw [HA.out]; rfl)
        go_wp2_with (first
          | (refine wpList_store_row rfl 37 (.tmp 6) (.tmp 32) rfl (w.heap.size + 1) Hs.zero rfl rfl _ _ (HZ.out _ H2.out) HSQ.out rfl H1Q.out ?_)
          | fail)
        exact bodyPost_ret (results_row_tmp rfl _ _ (w.heap.size + 1) _ _ _ _ rfl (setRow_heap _ _ _ _ _ _ (HZ.out _ H2.out)) huh rfl HSQ.out) rfl ⟨setRow_below (HBW.out _ H2.out).1 (by omega) _, .inl ⟨by rw [HE.out]; decide, by rw [HE.out]; rfl⟩⟩

end Go.Proofs.Ytejlpmjgdaippaa
