/-
  CONTRACT of the reference's Add. (By wip/tools/gen_radd9.py.)
-/
import Derived.Test.YthliomckpfeekaaLRAdd
import Derived.Test.YthliomckpfeekaaLRef
import Derived.Test.YthliomckpfeekaaIName
namespace Go.Proofs.Ythliomckpfeekaa
set_option linter.unusedVariables false
open Go.RowKit
open Pl (firstG findG putG It)

/-- What Add leaves. -/
def AddLP (h : Hs) (L : Nat → List (List Value)) (x : List Value) (w : World) (e : Ending) (w' : World) : Prop :=
  Below w.heap.size w w' ∧ ((addLE (L 0) (L 1) x ≠ 0 ∧ e = .returned (.tuple #[.agg Hs.zero, .int .i64 (addLE (L 0) (L 1) x : Nat)])) ∨
    (addLE (L 0) (L 1) x = 0 ∧ ∃ A n c, n = (putG ordL (L 1) x).length ∧ w'.ownsRow w.heap.size 39 3 (.slice A n c) n (putG ordL (L 1) x).flatten ∧ e = .returned (.tuple #[.agg (h.set 1 A n c).cells, .int .i64 0])))
/-- What is wrong with a lot, by its parts. -/
def addB (i lb : Bool) (k : Nat) (z : Int) (o : Bool) (n : Nat) : Nat :=
  if i = false then 12 else if lb = false then 21 else if k ≠ 0 then k else if z < 0 ∨ 100000 < z then 5 else if o = true then 11 else if 128 ≤ n then 14 else 0

set_option maxRecDepth 100000 in
set_option maxHeartbeats 3200000 in
theorem radd_any (h : Hs) (L : Nat → List (List Value)) (x : List Value) (w : World) (hh : HT h L w) (hn1 : h.n 1 ≤ 1000) (hx : Fits kLot x) (hm : (codeL x).size ≤ maxLen) :
    Calls Try.prog 12 #[.agg h.cells, .agg x.toArray] w (AddLP h L x w) := by
  have HXF := Lib.hid hx
  obtain ⟨xi, hxi⟩ : ∃ s, itemL x = s := ⟨_, rfl⟩
  obtain ⟨xc, hxc⟩ : ∃ s, codeL x = s := ⟨_, rfl⟩
  obtain ⟨z, hxz⟩ : ∃ s, expL x = s := ⟨_, rfl⟩
  have hx3 := lot_cells hx
  rw [hxi, hxc, hxz] at hx3
  obtain ⟨a, c, zz, hgl, _⟩ := lot_three hh xi xc
  obtain ⟨g, hgi⟩ := It.of (gotI_fits (hh 0 (by decide)).2.2.1 xi)
  have HFL := Lib.hid (fun W (hW : Below w.heap.size w W) => rfindL (hh.below hW) xi xc)
  have HFI := Lib.hid (fun W (hW : Below w.heap.size w W) => rfindI (hh.below hW) xi)
  have HNM : Hid (∀ W, Calls Try.prog 38 #[.string xc] W fun e w' => e = .returned (.int .i64 (Pl.nmE xc : Nat)) ∧ Below W.heap.size W w') := Lib.hid (fun W => (rname_any xc W (by rw [← hxc]; exact hm)).mono fun e w' ⟨h1, h2⟩ => ⟨h1, by rw [h2]; exact Below.refl _ _⟩)
  have HPU := Lib.hid (fun W (hW : Below w.heap.size w W) => rLot_any h x (L 1) W hx (hh 1 (by decide)).1 hn1 (hh 1 (by decide)).2.2.1 ((hh.below hW) 1 (by decide)).2.2.2)
  obtain ⟨lb, hlb⟩ : ∃ b, g.lots = b := ⟨_, rfl⟩
  obtain ⟨il, hil⟩ : ∃ b, (atL (L 1) xi xc).isSome = b := ⟨_, rfl⟩
  obtain ⟨ii, hii⟩ : ∃ b, (atI (L 0) xi).isSome = b := ⟨_, rfl⟩
  obtain ⟨k, hk⟩ : ∃ k, Pl.nmE xc = k := ⟨_, rfl⟩
  have HA : Hid (addLE (L 0) (L 1) x = addB ii lb k z il (h.n 1)) := Lib.hid (by
    unfold addLE addB
    rw [hxi, hxc, hxz, hgi, hii, hil, hk, show lotsI g.cells = lb from hlb, (hh 1 (by decide)).1])
  rw [hgl, hil] at HFL
  rw [hgi, hii] at HFI
  unfold It.cells at HFI
  rw [hlb] at HFI
  rw [hk] at HNM
  obtain ⟨m, hmm⟩ : ∃ m, h.n 1 = m := ⟨_, rfl⟩
  rw [hmm] at HA hn1
  have HMM := Lib.hid hmm
  clear hlb hil hii hk hgl hgi hxi hxc hxz hm hmm
  obtain ⟨W0, hW0⟩ : ∃ W0, W0 = ((w.alloc (.cells h.cells 37)).alloc (.cells x.toArray 39)).alloc (.cells #[.slice none 0 0, .slice none 0 0, .slice none 0 0, .slice none 0 0, .slice none 0 0, .slice none 0 0, .slice none 0 0, .slice none 0 0, .slice none 0 0, .slice none 0 0, .slice none 0 0, .slice none 0 0, .slice none 0 0, .slice none 0 0, .int .i64 0] 37) := ⟨_, rfl⟩
  have hb0 : Below w.heap.size w W0 := by rw [hW0]; exact (((Below.refl _ _).alloc (Nat.le_refl _) _).alloc (by simp) _).alloc (by simp; omega) _
  have hs0 : W0.heap.size = w.heap.size + 3 := by rw [hW0]; simp
  have HH : Hid (∀ W, Below W0.heap.size W0 W → W.heap[w.heap.size]? = some (.cells h.cells 37 (0, 0))) := Lib.hid (fun W hW => (hW.block _ (by omega)).trans (by
    rw [hW0]
    exact (Below.heap_alloc _ _ _ (by simp; omega)).trans ((Below.heap_alloc _ _ _ (by simp)).trans (heap_alloc_new _ _))))
  have HX : Hid (∀ W, Below W0.heap.size W0 W → W.heap[w.heap.size + 1]? = some (.cells x.toArray 39 (0, 0))) := Lib.hid (fun W hW => (hW.block _ (by omega)).trans (by
    rw [hW0]
    have := heap_alloc_new (w.alloc (.cells h.cells 37)) (.cells x.toArray 39)
    exact (Below.heap_alloc _ _ _ (by simp)).trans (by simpa using this)))
  have HZ : Hid (∀ W, Below W0.heap.size W0 W → W.heap[w.heap.size + 2]? = some (.cells Hs.zero 37 (0, 0))) := Lib.hid (fun W hW => (hW.block _ (by omega)).trans (by
    rw [hW0]
    have := heap_alloc_new ((w.alloc (.cells h.cells 37)).alloc (.cells x.toArray 39)) (.cells Hs.zero 37)
    simpa [Hs.zero] using this))
  have HBW : Hid (∀ W, Below W0.heap.size W0 W → Below w.heap.size w W ∧ w.heap.size + 3 ≤ W.heap.size) := Lib.hid (fun W hW => ⟨hb0.trans (hW.mono (by omega)), by have := hW.size; omega⟩)
  have hul := Try.underlying39
  have huh := Try.underlying37
  have HSX : Hid ((Try.prog.info? 39).map (·.size) = some x.toArray.size) := Lib.hid (by rw [show (Try.prog.info? 39).map (·.size) = some 3 from by kernel_rfl, List.size_toArray, hx.length]; rfl)
  have HSH : Hid (∀ a : Hs, (Try.prog.info? 37).map (·.size) = some a.cells.size) := Lib.hid (fun a => by kernel_rfl)
  have HSQ : Hid ((Try.prog.info? 37).map (·.size) = some Hs.zero.size) := Lib.hid (by kernel_rfl)
  have H1C : Hid (∀ a : Hs, a.cells.all (·.oneCell') = true) := Lib.hid (fun a => by simp [Hs.cells, Value.oneCell'])
  have H1Q : Hid (Hs.zero.all (·.oneCell') = true) := Lib.hid (by simp [Hs.zero, Value.oneCell'])
  have HC : Hid (∀ W, Below W0.heap.size W0 W → W.cell? ⟨w.heap.size + 1, 0, none⟩ = some (.string xi) ∧ W.cell? ⟨w.heap.size + 1, 1, none⟩ = some (.string xc) ∧ W.cell? ⟨w.heap.size + 1, 2, none⟩ = some (.int .i64 z) ∧ w.heap.size + 1 < W.heap.size) := Lib.hid (fun W hW => ⟨by rw [cell_of_block (HX.out W hW), hx3]; rfl, by rw [cell_of_block (HX.out W hW), hx3]; rfl, by rw [cell_of_block (HX.out W hW), hx3]; rfl, by have := hW.size; omega⟩)
  have HL1 : Hid (∀ W, Below W0.heap.size W0 W → W.cell? ⟨w.heap.size, 1, none⟩ = some (.slice (h.A 1) m (h.c 1)) ∧ w.heap.size < W.heap.size) := Lib.hid (fun W hW => ⟨by rw [cell_of_block (HH.out W hW), ← HMM.out]; rfl, by have := hW.size; omega⟩)
  have HS0 := Lib.hid hs0
  have HHS := Lib.hid (HH.out _ (Below.refl _ _))
  have H0 := Lib.hid (Below.refl W0.heap.size W0)
  have hc0 := HC.out _ (Below.refl _ _)
  obtain ⟨c0, c1, c2, hlt0⟩ := hc0
  clear hx hx3 hb0 hs0 hh
  subst hW0
  go_enter Try.func12, Try.ntmps12
  go_wp2_with (first
    | (refine wpList_load_row rfl 37 (.tmp 2) rfl w.heap.size rfl _ _ _ _ HHS.out huh rfl (HSH.out _) ?_)
    | fail)
  refine (HFI.out _ (HBW.out _ H0.out).1).mono ?_
  rintro e w1 ⟨rfl, hb1⟩
  have H1 := Lib.hid hb1
  clear hb1 c0 c1 c2 hlt0
  have H2 := Lib.hid (H1.out.alloc H1.out.size (.cells #[.string g.code, .string (g.nm 0), .int .i64 (g.fc 0), .string (g.nm 1), .int .i64 (g.fc 1), .string (g.nm 2), .int .i64 (g.fc 2), .string (g.nm 3), .int .i64 (g.fc 3), .int .i64 g.vol, .int .i64 g.wei, .bool lb, .bool g.serial, .bool g.chk] 59))
  cases ii with
  | false =>
    have HE : Hid (addLE (L 0) (L 1) x = 12) := Lib.hid (by rw [HA.out]; rfl)
    go_wp2_with (first
      | (refine wpList_store_row rfl 37 (.tmp 4) (.tmp 20) rfl (w.heap.size + 2) Hs.zero rfl rfl _ _ (HZ.out _ H2.out) HSQ.out rfl H1Q.out ?_)
      | fail)
    exact bodyPost_ret (results_row_tmp rfl _ _ (w.heap.size + 2) _ _ _ _ rfl (setRow_heap _ _ _ _ _ _ (HZ.out _ H2.out)) huh rfl HSQ.out) rfl ⟨setRow_below (HBW.out _ H2.out).1 (by omega) _, .inl ⟨by rw [HE.out]; decide, by rw [HE.out]; rfl⟩⟩
  | true =>
    cases lb with
    | false =>
      have HE : Hid (addLE (L 0) (L 1) x = 21) := Lib.hid (by rw [HA.out]; rfl)
      go_wp2_with (first
        | (refine wpList_store_row rfl 37 (.tmp 4) (.tmp 24) rfl (w.heap.size + 2) Hs.zero rfl rfl _ _ (HZ.out _ H2.out) HSQ.out rfl H1Q.out ?_)
        | fail)
      exact bodyPost_ret (results_row_tmp rfl _ _ (w.heap.size + 2) _ _ _ _ rfl (setRow_heap _ _ _ _ _ _ (HZ.out _ H2.out)) huh rfl HSQ.out) rfl ⟨setRow_below (HBW.out _ H2.out).1 (by omega) _, .inl ⟨by rw [HE.out]; decide, by rw [HE.out]; rfl⟩⟩
    | true =>
      obtain ⟨c0, c1, c2, hlt0⟩ := HC.out _ H2.out
      go_wp2_with fail
      refine (HNM.out _).mono ?_
      rintro e w2 ⟨rfl, hb2⟩
      have H3 := Lib.hid (H2.out.trans (hb2.mono H2.out.size))
      clear hb2 c0 c1 c2 hlt0
      obtain ⟨c0, c1, c2, hlt0⟩ := HC.out _ H3.out
      by_cases hk : k = 0
      · subst hk
        by_cases hz0 : z < 0
        · have HE : Hid (addLE (L 0) (L 1) x = 5) := Lib.hid (by rw [HA.out]; simp [addB, hz0])
          go_wp2_with (first
            | (refine wpList_store_row rfl 37 (.tmp 4) (.tmp 40) rfl (w.heap.size + 2) Hs.zero rfl rfl _ _ (HZ.out _ H3.out) HSQ.out rfl H1Q.out ?_)
            | fail)
          exact bodyPost_ret (results_row_tmp rfl _ _ (w.heap.size + 2) _ _ _ _ rfl (setRow_heap _ _ _ _ _ _ (HZ.out _ H3.out)) huh rfl HSQ.out) rfl ⟨setRow_below (HBW.out _ H3.out).1 (by omega) _, .inl ⟨by rw [HE.out]; decide, by rw [HE.out]; rfl⟩⟩
        · by_cases hz1 : 100000 < z
          · have HE : Hid (addLE (L 0) (L 1) x = 5) := Lib.hid (by rw [HA.out]; simp [addB, hz1])
            go_wp2_with (first
              | (refine wpList_store_row rfl 37 (.tmp 4) (.tmp 40) rfl (w.heap.size + 2) Hs.zero rfl rfl _ _ (HZ.out _ H3.out) HSQ.out rfl H1Q.out ?_)
              | fail)
            exact bodyPost_ret (results_row_tmp rfl _ _ (w.heap.size + 2) _ _ _ _ rfl (setRow_heap _ _ _ _ _ _ (HZ.out _ H3.out)) huh rfl HSQ.out) rfl ⟨setRow_below (HBW.out _ H3.out).1 (by omega) _, .inl ⟨by rw [HE.out]; decide, by rw [HE.out]; rfl⟩⟩
          · have HHS3 := Lib.hid (HH.out _ H3.out)
            go_wp2_with (first
              | (refine wpList_load_row rfl 37 (.tmp 2) rfl w.heap.size rfl _ _ _ _ HHS3.out huh rfl (HSH.out _) ?_)
              | fail)
            refine (HFL.out _ (HBW.out _ H3.out).1).mono ?_
            rintro e w3 ⟨rfl, hb3⟩
            have H4 := Lib.hid (H3.out.trans (hb3.mono H3.out.size))
            clear hb3 c0 c1 c2 hlt0
            have H5 := Lib.hid (H4.out.alloc H4.out.size (.cells #[.string a, .string c, .int .i64 zz] 39))
            obtain ⟨l0, hll⟩ := HL1.out _ H5.out
            cases il with
            | true =>
              have HE : Hid (addLE (L 0) (L 1) x = 11) := Lib.hid (by rw [HA.out]; simp [addB, hz0, hz1])
              go_wp2_with (first
                | (refine wpList_store_row rfl 37 (.tmp 4) (.tmp 51) rfl (w.heap.size + 2) Hs.zero rfl rfl _ _ (HZ.out _ H5.out) HSQ.out rfl H1Q.out ?_)
                | fail)
              exact bodyPost_ret (results_row_tmp rfl _ _ (w.heap.size + 2) _ _ _ _ rfl (setRow_heap _ _ _ _ _ _ (HZ.out _ H5.out)) huh rfl HSQ.out) rfl ⟨setRow_below (HBW.out _ H5.out).1 (by omega) _, .inl ⟨by rw [HE.out]; decide, by rw [HE.out]; rfl⟩⟩
            | false =>
              by_cases h128 : 128 ≤ m
              · have HE : Hid (addLE (L 0) (L 1) x = 14) := Lib.hid (by rw [HA.out]; simp [addB, hz0, hz1, h128])
                go_wp2_with (first
                  | (refine wpList_store_row rfl 37 (.tmp 4) (.tmp 56) rfl (w.heap.size + 2) Hs.zero rfl rfl _ _ (HZ.out _ H5.out) HSQ.out rfl H1Q.out ?_)
                  | fail)
                exact bodyPost_ret (results_row_tmp rfl _ _ (w.heap.size + 2) _ _ _ _ rfl (setRow_heap _ _ _ _ _ _ (HZ.out _ H5.out)) huh rfl HSQ.out) rfl ⟨setRow_below (HBW.out _ H5.out).1 (by omega) _, .inl ⟨by rw [HE.out]; decide, by rw [HE.out]; rfl⟩⟩
              · have HE : Hid (addLE (L 0) (L 1) x = 0) := Lib.hid (by rw [HA.out]; simp [addB, hz0, hz1, h128])
                have HHS5 := Lib.hid (HH.out _ H5.out)
                have HXS5 := Lib.hid (HX.out _ H5.out)
                go_wp2_with (first
                  | (refine wpList_load_row rfl 37 (.tmp 2) rfl w.heap.size rfl _ _ _ _ HHS5.out huh rfl (HSH.out _) ?_)
                  | (refine wpList_load_row rfl 39 (.tmp 3) rfl (w.heap.size + 1) rfl _ _ _ _ HXS5.out hul rfl HSX.out ?_)
                  | fail)
                refine (HPU.out _ (HBW.out _ H5.out).1).mono ?_
                rintro e w4 ⟨hb4, A, n, cc, hl, hown, rfl⟩
                have H6 := Lib.hid (H5.out.trans (hb4.mono H5.out.size))
                have HO6 := Lib.hid hown
                have HLE := Lib.hid hl
                have HSZ5 := Lib.hid (HBW.out _ H5.out).2
                clear hb4 hown hl
                go_wp2_with (first
                  | (refine wpList_store_row rfl 37 (.tmp 4) (.tmp 59) rfl (w.heap.size + 2) (h.set 1 A n cc).cells rfl rfl _ _ (HZ.out _ H6.out) (HSH.out _) rfl (H1C.out _) ?_)
                  | fail)
                exact bodyPost_ret (results_row_tmp rfl _ _ (w.heap.size + 2) _ _ _ _ rfl (setRow_heap _ _ _ _ _ _ (HZ.out _ H6.out)) huh rfl (HSH.out _)) rfl ⟨setRow_below (HBW.out _ H6.out).1 (by omega) _, .inr ⟨HE.out, A, n, cc, HLE.out, own_rowed HO6.out (by have := HSZ5.out; omega) (by have := HSZ5.out; omega), rfl⟩⟩
      · have HE : Hid (addLE (L 0) (L 1) x = k) := Lib.hid (by rw [HA.out]; simp [addB, hk])
        have hk0 : ((k : Int) != 0) = true := by simpa using hk
        have HK := Lib.hid hk
        clear hk
        go_wp2_with (first
          | (refine wpList_store_row rfl 37 (.tmp 4) (.tmp 30) rfl (w.heap.size + 2) Hs.zero rfl rfl _ _ (HZ.out _ H3.out) HSQ.out rfl H1Q.out ?_)
          | fail)
        exact bodyPost_ret (results_row_tmp rfl _ _ (w.heap.size + 2) _ _ _ _ rfl (setRow_heap _ _ _ _ _ _ (HZ.out _ H3.out)) huh rfl HSQ.out) rfl ⟨setRow_below (HBW.out _ H3.out).1 (by omega) _, .inl ⟨by rw [HE.out]; exact HK.out, by rw [HE.out]; rfl⟩⟩
end Go.Proofs.Ythliomckpfeekaa
