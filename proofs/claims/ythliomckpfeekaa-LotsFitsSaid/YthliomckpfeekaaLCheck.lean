/-
  CONTRACT of the code's check of a lot.
-/
import Derived.Test.YthliomckpfeekaaLRAddA
import Derived.Test.YthliomckpfeekaaLFind
namespace Go.Proofs.Ythliomckpfeekaa
set_option linter.unusedVariables false
open Go.RowKit
open Pl (firstG findG putG It)

/-- Find, find of a house in memory. -/
theorem cfindI {h : Hs} {L : Nat → List (List Value)} {w : World} (hh : HT h L w) (s : ByteArray) : Calls Try.prog 55 #[.agg h.cells, .string s] w fun e w' => e = .returned (.tuple #[.agg (gotI (L 0) s).toArray, .bool (atI (L 0) s).isSome]) ∧ Below w.heap.size w w' :=
  finds_any h (L 0) s w (hh 0 (by decide)).1 (hh 0 (by decide)).2.1 (hh 0 (by decide)).2.2.1 (hh 0 (by decide)).2.2.2
theorem cfindL {h : Hs} {L : Nat → List (List Value)} {w : World} (hh : HT h L w) (s t : ByteArray) : Calls Try.prog 58 #[.agg h.cells, .string s, .string t] w fun e w' => e = .returned (.tuple #[.agg (gotL (L 1) s t).toArray, .bool (atL (L 1) s t).isSome]) ∧ Below w.heap.size w w' :=
  findl_any h (L 1) s t w (hh 1 (by decide)).1 (hh 1 (by decide)).2.1 (hh 1 (by decide)).2.2.1 (hh 1 (by decide)).2.2.2

set_option maxRecDepth 100000 in
set_option maxHeartbeats 3200000 in
theorem ccheck_any (h : Hs) (L : Nat → List (List Value)) (x : List Value) (w : World) (hh : HT h L w) (hx : Fits kLot x) (hm : (codeL x).size ≤ maxLen) :
    Calls Try.prog 34 #[.agg h.cells, .agg x.toArray] w fun e w' => e = .returned (.int .i64 (addLE (L 0) (L 1) x : Nat)) ∧ Below w.heap.size w w' := by
  have hn9 := (hh 1 (by decide)).2.1
  obtain ⟨xi, hxi⟩ : ∃ s, itemL x = s := ⟨_, rfl⟩
  obtain ⟨xc, hxc⟩ : ∃ s, codeL x = s := ⟨_, rfl⟩
  obtain ⟨z, hxz⟩ : ∃ s, expL x = s := ⟨_, rfl⟩
  have hx3 := lot_cells hx
  rw [hxi, hxc, hxz] at hx3
  obtain ⟨a, c, zz, hgl, _⟩ := lot_three hh xi xc
  obtain ⟨g, hgi⟩ := It.of (gotI_fits (hh 0 (by decide)).2.2.1 xi)
  have HFL := Lib.hid (fun W (hW : Below w.heap.size w W) => cfindL (hh.below hW) xi xc)
  have HFI := Lib.hid (fun W (hW : Below w.heap.size w W) => cfindI (hh.below hW) xi)
  have HNM : Hid (∀ W, Calls Try.prog 59 #[.string xc] W fun e w' => e = .returned (.int .i64 (Pl.nmE xc : Nat)) ∧ Below W.heap.size W w') := Lib.hid (fun W => (name_any xc W (by rw [← hxc]; exact hm)).mono fun e w' ⟨h1, h2⟩ => ⟨h1, by rw [h2]; exact Below.refl _ _⟩)
  obtain ⟨lb, hlb⟩ : ∃ b, g.lots = b := ⟨_, rfl⟩
  obtain ⟨il, hil⟩ : ∃ b, (atL (L 1) xi xc).isSome = b := ⟨_, rfl⟩
  obtain ⟨ii, hii⟩ : ∃ b, (atI (L 0) xi).isSome = b := ⟨_, rfl⟩
  obtain ⟨k, hk⟩ : ∃ k, Pl.nmE xc = k := ⟨_, rfl⟩
  have HA : Hid (addLE (L 0) (L 1) x = addB ii lb k z il (h.n 1)) := Lib.hid (by
    unfold addLE addB
    rw [hxi, hxc, hxz, hgi, hii, hil, hk, show lotsI g.cells = lb from hlb, (hh 1 (by decide)).1])
  rw [hgl, hil] at HFL
  rw [hgi, hii] at HFI
  unfold It.cells at HFI
  rw [hlb] at HFI
  rw [hk] at HNM
  obtain ⟨m, hmm⟩ : ∃ m, h.n 1 = m := ⟨_, rfl⟩
  rw [hmm] at HA hn9
  have HMM := Lib.hid hmm
  clear hlb hil hii hk hgl hgi hxi hxc hxz hm hmm
  obtain ⟨r, hr⟩ : ∃ r, addLE (L 0) (L 1) x = r := ⟨_, rfl⟩
  rw [hr] at HA ⊢
  clear hr
  obtain ⟨W0, hW0⟩ : ∃ W0, W0 = (w.alloc (.cells h.cells 37)).alloc (.cells x.toArray 39) := ⟨_, rfl⟩
  have hb0 : Below w.heap.size w W0 := by rw [hW0]; exact ((Below.refl _ _).alloc (Nat.le_refl _) _).alloc (by simp) _
  have hs0 : W0.heap.size = w.heap.size + 2 := by rw [hW0]; simp
  have HH : Hid (∀ W, Below W0.heap.size W0 W → W.heap[w.heap.size]? = some (.cells h.cells 37 (0, 0))) := Lib.hid (fun W hW => (hW.block _ (by omega)).trans (by
    rw [hW0]
    exact (Below.heap_alloc _ _ _ (by simp)).trans (heap_alloc_new _ _)))
  have HX : Hid (∀ W, Below W0.heap.size W0 W → W.heap[w.heap.size + 1]? = some (.cells x.toArray 39 (0, 0))) := Lib.hid (fun W hW => (hW.block _ (by omega)).trans (by
    rw [hW0]
    have := heap_alloc_new (w.alloc (.cells h.cells 37)) (.cells x.toArray 39)
    simpa using this))
  have HBW : Hid (∀ W, Below W0.heap.size W0 W → Below w.heap.size w W) := Lib.hid (fun W hW => hb0.trans (hW.mono (by omega)))
  have huh := Try.underlying37
  have HSH : Hid (∀ a : Hs, (Try.prog.info? 37).map (·.size) = some a.cells.size) := Lib.hid (fun a => by kernel_rfl)
  have HC : Hid (∀ W, Below W0.heap.size W0 W → W.cell? ⟨w.heap.size + 1, 0, none⟩ = some (.string xi) ∧ W.cell? ⟨w.heap.size + 1, 1, none⟩ = some (.string xc) ∧ W.cell? ⟨w.heap.size + 1, 2, none⟩ = some (.int .i64 z) ∧ w.heap.size + 1 < W.heap.size) := Lib.hid (fun W hW => ⟨by rw [cell_of_block (HX.out W hW), hx3]; rfl, by rw [cell_of_block (HX.out W hW), hx3]; rfl, by rw [cell_of_block (HX.out W hW), hx3]; rfl, by have := hW.size; omega⟩)
  have HL1 : Hid (∀ W, Below W0.heap.size W0 W → W.cell? ⟨w.heap.size, 1, none⟩ = some (.slice (h.A 1) m (h.c 1)) ∧ w.heap.size < W.heap.size) := Lib.hid (fun W hW => ⟨by rw [cell_of_block (HH.out W hW), ← HMM.out]; rfl, by have := hW.size; omega⟩)
  have HHS := Lib.hid (HH.out _ (Below.refl _ _))
  have H0 := Lib.hid (Below.refl W0.heap.size W0)
  have hc0 := HC.out _ (Below.refl _ _)
  obtain ⟨c0, c1, c2, hlt0⟩ := hc0
  clear hx hx3 hb0 hs0 hh
  subst hW0
  go_enter Try.func34, Try.ntmps34
  go_wp2_with (first
    | (refine wpList_load_row rfl 37 (.tmp 2) rfl w.heap.size rfl _ _ _ _ HHS.out huh rfl (HSH.out _) ?_)
    | fail)
  refine (HFI.out _ (HBW.out _ H0.out)).mono ?_
  rintro e w1 ⟨rfl, hb1⟩
  have H1 := Lib.hid hb1
  clear hb1 c0 c1 c2 hlt0
  have H2 := Lib.hid (H1.out.alloc H1.out.size (.cells #[.string g.code, .string (g.nm 0), .int .i64 (g.fc 0), .string (g.nm 1), .int .i64 (g.fc 1), .string (g.nm 2), .int .i64 (g.fc 2), .string (g.nm 3), .int .i64 (g.fc 3), .int .i64 g.vol, .int .i64 g.wei, .bool lb, .bool g.serial, .bool g.chk] 59))
  cases ii with
  | false =>
    have HE : Hid (r = 12) := Lib.hid (by rw [HA.out]; rfl)
    go_wp2_with fail
    go_ret
    exact ⟨by rw [HE.out]; rfl, HBW.out _ H2.out⟩
  | true =>
    cases lb with
    | false =>
      have HE : Hid (r = 21) := Lib.hid (by rw [HA.out]; rfl)
      go_wp2_with fail
      go_ret
      exact ⟨by rw [HE.out]; rfl, HBW.out _ H2.out⟩
    | true =>
      obtain ⟨c0, c1, c2, hlt0⟩ := HC.out _ H2.out
      go_wp2_with fail
      refine (HNM.out _).mono ?_
      rintro e w2 ⟨rfl, hb2⟩
      have H3 := Lib.hid (H2.out.trans (hb2.mono H2.out.size))
      clear hb2 c0 c1 c2 hlt0
      obtain ⟨c0, c1, c2, hlt0⟩ := HC.out _ H3.out
      by_cases hk : k = 0
      · subst hk
        by_cases hz0 : z < 0
        · have HE : Hid (r = 5) := Lib.hid (by rw [HA.out]; simp [addB, hz0])
          go_wp2_with fail
          go_ret
          exact ⟨by rw [HE.out]; rfl, HBW.out _ H3.out⟩
        · by_cases hz1 : 100000 < z
          · have HE : Hid (r = 5) := Lib.hid (by rw [HA.out]; simp [addB, hz1])
            go_wp2_with fail
            go_ret
            exact ⟨by rw [HE.out]; rfl, HBW.out _ H3.out⟩
          · have HHS3 := Lib.hid (HH.out _ H3.out)
            go_wp2_with (first
              | (refine wpList_load_row rfl 37 (.tmp 2) rfl w.heap.size rfl _ _ _ _ HHS3.out huh rfl (HSH.out _) ?_)
              | fail)
            refine (HFL.out _ (HBW.out _ H3.out)).mono ?_
            rintro e w3 ⟨rfl, hb3⟩
            have H4 := Lib.hid (H3.out.trans (hb3.mono H3.out.size))
            clear hb3 c0 c1 c2 hlt0
            have H5 := Lib.hid (H4.out.alloc H4.out.size (.cells #[.string a, .string c, .int .i64 zz] 39))
            obtain ⟨l0, hll⟩ := HL1.out _ H5.out
            cases il with
            | true =>
              have HE : Hid (r = 11) := Lib.hid (by rw [HA.out]; simp [addB, hz0, hz1])
              go_wp2_with fail
              go_ret
              exact ⟨by rw [HE.out]; rfl, HBW.out _ H5.out⟩
            | false =>
              by_cases h128 : 128 ≤ m
              · have HE : Hid (r = 14) := Lib.hid (by rw [HA.out]; simp [addB, hz0, hz1, h128])
                go_wp2_with fail
                go_ret
                exact ⟨by rw [HE.out]; rfl, HBW.out _ H5.out⟩
              · have HE : Hid (r = 0) := Lib.hid (by rw [HA.out]; simp [addB, hz0, hz1, h128])
                go_wp2_with fail
                go_ret
                exact ⟨by rw [HE.out]; rfl, HBW.out _ H5.out⟩
      · have HE : Hid (r = k) := Lib.hid (by rw [HA.out]; simp [addB, hk])
        have hk0 : ((k : Int) != 0) = true := by simpa using hk
        have HK := Lib.hid hk
        clear hk
        go_wp2_with fail
        go_ret
        exact ⟨by rw [HE.out]; rfl, HBW.out _ H3.out⟩
end Go.Proofs.Ythliomckpfeekaa
