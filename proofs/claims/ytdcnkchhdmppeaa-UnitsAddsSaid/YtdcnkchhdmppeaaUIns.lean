/-
  CONTRACT of slices' insertion sort over units.
-/
import Derived.Test.YtdcnkchhdmppeaaUCmp
import Derived.Test.YtdcnkchhdmppeaaHGrow
import Derived.BigRegion
import Derived.Maps.RangeWalk
import Derived.Deep.RegionHeld3
import Derived.IntWalk
namespace Go.Proofs.Ytdcnkchhdmppeaa
set_option linter.unusedVariables false
open Go.RowKit
open Pl (It)

/-- A piece of code that comes to one end. -/
theorem region_to {P : Program} {c : Code} {Q : Exit → Act → World → Prop} {a : Act} {w : World} {A : Act} {W : World} (h : c.wp P (fun e a' w' => e = .normal ∧ a' = A ∧ w' = W) a w) (hq : Q .normal A W) : c.wp P Q a w :=
  Code.wp_mono (fun e a' w' => (by rintro ⟨rfl, rfl, rfl⟩; exact hq)) h
abbrev Pr := ByteArray × Int
abbrev keyU (p : Pr) : Int := p.2
abbrev sortU (l : List Pr) : List Pr := Pl.sortR keyU [] l
theorem sortR_snoc {α : Type} (f : α → Int) : ∀ (l acc : List α) (v : α), Pl.sortR f acc (l ++ [v]) = Pl.insR f v (Pl.sortR f acc l)
  | [], acc, v => rfl
  | a :: l, acc, v => sortR_snoc f l _ v
/-- One round of the sort: v goes down through A; B is what it went by. -/
structure Sink (l : List Pr) (i : Nat) (v : Pr) (j : Nat) (A B : List Pr) (M : List Pr) : Prop where
  len : A.length = j
  lst : M = A ++ v :: B ++ l.drop (i + 1)
  ins : sortU (l.take (i + 1)) = B.reverse ++ Pl.insR keyU v A.reverse
  tot : M.length = l.length
theorem sink_first {l M : List Pr} {i : Nat} (hi : i < l.length) (hM : M = (sortU (l.take i)).reverse ++ l.drop i) (hl : M.length = l.length) : ∃ v A, Sink l i v i A [] M := by
  refine ⟨l[i], (sortU (l.take i)).reverse, ?_, ?_, ?_, hl⟩
  · rw [hM, List.length_append, List.length_drop] at hl
    omega
  · rw [hM, List.drop_eq_getElem_cons hi]; simp
  · rw [List.take_succ_eq_append_getElem hi, List.reverse_reverse]
    exact sortR_snoc keyU _ [] _
theorem Sink.here {l A B M : List Pr} {i j : Nat} {v : Pr} (h : Sink l i v j A B M) : ∃ hj : j < M.length, M[j] = v := by
  obtain ⟨h1, h2, _, _⟩ := h
  subst h1 h2
  exact ⟨by simp, by simp⟩
theorem Sink.below {l A B M : List Pr} {i j : Nat} {v : Pr} (h : Sink l i v (j + 1) A B M) : ∃ hj : j < M.length, ∃ A0 y, A = A0 ++ [y] ∧ A0.length = j ∧ M[j] = y := by
  obtain ⟨h1, h2, _, _⟩ := h
  have hA : A ≠ [] := by intro e; rw [e] at h1; simp at h1
  refine ⟨by rw [h2]; simp; omega, A.dropLast, A.getLast hA, (List.dropLast_concat_getLast hA).symm, by rw [List.length_dropLast]; omega, ?_⟩
  subst h2
  rw [List.getElem_append_left (by simp; omega), List.getElem_append_left (by omega), List.getLast_eq_getElem]
  congr 1; omega
theorem Sink.done0 {l A B M : List Pr} {i : Nat} {v : Pr} (h : Sink l i v 0 A B M) : M = (sortU (l.take (i + 1))).reverse ++ l.drop (i + 1) := by
  have hA : A = [] := List.length_eq_zero_iff.1 h.len
  rw [h.ins, h.lst, hA]
  simp [Pl.insR]
theorem Sink.done {l A0 B M : List Pr} {i j : Nat} {v y : Pr} (h : Sink l i v (j + 1) (A0 ++ [y]) B M) (hlt : ¬ y.2 < v.2) : M = (sortU (l.take (i + 1))).reverse ++ l.drop (i + 1) := by
  have e : (A0 ++ [y]).reverse = y :: A0.reverse := by simp
  rw [h.ins, h.lst, e]
  show _ = (B.reverse ++ (if y.2 < v.2 then y :: Pl.insR keyU v A0.reverse else v :: y :: A0.reverse)).reverse ++ _
  rw [if_neg hlt]
  simp
theorem Sink.next {l A0 B M : List Pr} {i j : Nat} {v y : Pr} (h : Sink l i v (j + 1) (A0 ++ [y]) B M) (hlt : y.2 < v.2) : Sink l i v j A0 (y :: B) ((M.set (j + 1) y).set j v) := by
  have h1 := h.len
  have hl : A0.length = j := by simpa using h1
  refine ⟨hl, ?_, ?_, by rw [List.length_set, List.length_set]; exact h.tot⟩
  · rw [h.lst]
    subst hl
    simp
  · rw [h.ins, List.reverse_append]
    show B.reverse ++ (if y.2 < v.2 then y :: Pl.insR keyU v A0.reverse else v :: y :: A0.reverse) = _
    rw [if_pos hlt]
    simp
theorem prC_set : ∀ (M : List Pr) (j : Nat) (p : Pr), j < M.length → (((prC M).flatten.set (j * 2) (.string p.1)).set (j * 2 + 1) (.int .i64 p.2)) = (prC (M.set j p)).flatten
  | q :: M, 0, p, _ => rfl
  | q :: M, j + 1, p, h => by
    have ih := prC_set M j p (by simpa using h)
    rw [show (j + 1) * 2 = j * 2 + 2 from by omega, show j * 2 + 2 + 1 = j * 2 + 1 + 2 from by omega]
    show Value.string q.1 :: Value.int .i64 q.2 :: (((prC M).flatten.set (j * 2) (.string p.1)).set (j * 2 + 1) (.int .i64 p.2)) = _
    rw [ih]; rfl

theorem pr_range {w : World} {B g n c T j : Nat} {M : List Pr} {v : Pr} (h : w.ownsRow B T 2 (.slice (some ⟨g, 0, none⟩) n c) n (prC M).flatten) (hn : M.length = n) (hj : j < M.length) (hv : M[j] = v) : w.rangeAt g (j * 2) [.string v.1, .int .i64 v.2] := fun i u hu => by
  subst hv
  match i, hu with
  | 0, hu => simp at hu; subst hu; show w.cell? ⟨g, j * 2, none⟩ = _; rw [h.cellAt _ (by omega)]; exact (prC_at M j hj).1
  | 1, hu => simp at hu; subst hu; show w.cell? ⟨g, j * 2 + 1, none⟩ = _; rw [h.cellAt _ (by omega)]; exact (prC_at M j hj).2
  | i + 2, hu => simp at hu

theorem one2 (s : ByteArray) (z : Int) : (#[Value.string s, .int .i64 z] : Array Value).all (·.oneCell') = true := all_oneCell_toArray (cs := [.string s, .int .i64 z]) (by intro u hu; simp at hu; rcases hu with rfl | rfl <;> rfl)
theorem pr_set {w : World} {B g n c T j : Nat} {M : List Pr} (h : w.ownsRow B T 2 (.slice (some ⟨g, 0, none⟩) n c) n (prC M).flatten) (hg : B ≤ g) (hj : j < M.length) (p : Pr) : (w.setCells g (j * 2) [.string p.1, .int .i64 p.2]).ownsRow B T 2 (.slice (some ⟨g, 0, none⟩) n c) n (prC (M.set j p)).flatten ∧ Below B w (w.setCells g (j * 2) [.string p.1, .int .i64 p.2]) := by
  have h1 := h.stored (j * 2) (.string p.1)
  have h2 := h1.1.stored (j * 2 + 1) (.int .i64 p.2)
  rw [prC_set M j p hj] at h2
  exact ⟨h2.1, ((Below.refl B w).setCell (p := ⟨g, j * 2, none⟩) hg _).setCell (p := ⟨g, j * 2 + 1, none⟩) hg _⟩
theorem pr_there {w : World} {B g n c T j : Nat} {M : List Pr} (h : w.ownsRow B T 2 (.slice (some ⟨g, 0, none⟩) n c) n (prC M).flatten) (hn : M.length = n) (hj : j < n) : w.there g (j * 2) 2 := fun i hi => by
  have hl := prC_length M
  rw [h.cellAt (j * 2 + i) (by omega), List.getElem?_eq_getElem (by rw [hl, hn]; omega)]
  exact ⟨rfl, h.frozenAt _⟩
theorem own_ge {w : World} {B n c g T : Nat} {xs : List Value} (h : w.ownsRow B T 2 (.slice (some ⟨g, 0, none⟩) n c) n xs) : B ≤ g := by
  obtain ⟨_, h | ⟨g', cap, cur, hv, hg, hh, hr⟩⟩ := h
  · exact absurd h.1 (by simp)
  · injection hv with h1; injection h1 with h1; injection h1 with h1; subst h1; exact hg

set_option maxRecDepth 100000 in
set_option maxHeartbeats 1600000 in
theorem insertion_any (g n c B : Nat) (l : List Pr) (w : World) (hn : n = l.length) (hn1 : 1 ≤ n) (hn5 : n ≤ 5) (ho : w.ownsRow B 23 2 (.slice (some ⟨g, 0, none⟩) n c) n (prC l).flatten) (hB : B ≤ w.heap.size) :
    Calls Try.prog 27 #[.slice (some ⟨g, 0, none⟩) n c, .int .i64 0, .int .i64 n, .func (.func 23) #[] #[]] w fun e w' => e = .returned (.tuple #[]) ∧ w'.ownsRow B 23 2 (.slice (some ⟨g, 0, none⟩) n c) n (prC (sortU l).reverse).flatten ∧ Below B w w' := by
  have hent := enters_of Try.func23 (by kernel_rfl) rfl
  have HO0 : Hid (w.ownsRow B 23 2 (.slice (some ⟨g, 0, none⟩) n c) n (prC ((sortU (l.take 1)).reverse ++ l.drop 1)).flatten) := Lib.hid (by
    have : (sortU (l.take 1)).reverse ++ l.drop 1 = l := by
      cases l with
      | nil => rfl
      | cons p l => rfl
    rw [this]; exact ho)
  have HN := Lib.hid hn
  clear ho hn
  go_enter Try.func27, Try.ntmps27
  go_wp2_with fail
  go_loopw [8] (fun iv wr => ∃ (i : Nat) (M : List Pr), 1 ≤ i ∧ i ≤ n ∧ iv = .int .i64 (i : Int) ∧ Hid (M = (sortU (l.take i)).reverse ++ l.drop i) ∧ Hid (M.length = l.length) ∧ Hid (wr.ownsRow B 23 2 (.slice (some ⟨g, 0, none⟩) n c) n (prC M).flatten) ∧ Hid (Below B w wr)) (fun iv _ => n - (intOf iv).toNat)
  case atStart => exact ⟨1, _, by omega, by omega, rfl, Lib.hid rfl, Lib.hid (by have := HO0.out.1; rw [prC_length] at this; rw [← HN.out]; omega), HO0, Lib.hid (Below.refl _ _)⟩
  case round =>
    obtain ⟨i, M0, hi1, hi, rfl, HM0, HL0, HOM, HBM⟩ := hrel
    by_cases hlt : i < n
    · obtain ⟨v, A0, hs0⟩ := sink_first (by rw [← HN.out]; exact hlt) HM0.out HL0.out
      have HS0 := Lib.hid hs0
      clear hs0
      go_wp2_with fail
      go_loopw [9] (fun jv wr => ∃ (j : Nat) (A B' M : List Pr), j ≤ i ∧ jv = .int .i64 (j : Int) ∧ Hid (Sink l i v j A B' M) ∧ Hid (wr.ownsRow B 23 2 (.slice (some ⟨g, 0, none⟩) n c) n (prC M).flatten) ∧ Hid (Below B w wr)) (fun jv _ => (intOf jv).toNat)
      case atStart => exact ⟨i, A0, [], M0, by omega, rfl, HS0, HOM, HBM⟩
      case round =>
        obtain ⟨j, A, B', M, hji, rfl, HS, HO, HB⟩ := hrel
        cases j with
        | zero =>
          have HD := Lib.hid HS.out.done0
          have HT := Lib.hid HS.out.tot
          go_wp2_with fail
          go_quiet (fail)
          go_wp2_with fail
          go_roundw
          case rel => exact ⟨i + 1, M, by omega, by omega, by go_num, HD, HT, Lib.hid (own_below HO.out (below_drewN (Below.refl _ _) _)), Lib.hid (below_drewN HB.out _)⟩
          case measure => simp [intOf]; omega
        | succ j =>
          obtain ⟨hj1, hv⟩ := HS.out.here
          obtain ⟨hj0, A1, y, rfl, hA1, hy⟩ := HS.out.below
          have HG : Hid (g < wr.heap.size) := Lib.hid (own_lt HO.out)
          have HMn : Hid (M.length = n) := Lib.hid (by rw [HS.out.tot, HN.out])
          have HRv : Hid (∀ W, Below wr.heap.size wr W → W.rangeAt g ((j + 1) * 2) [.string v.1, .int .i64 v.2]) := Lib.hid (fun W hW => pr_range (own_below HO.out hW) HMn.out hj1 hv)
          have HRy : Hid (∀ W, Below wr.heap.size wr W → W.rangeAt g (j * 2) [.string y.1, .int .i64 y.2]) := Lib.hid (fun W hW => pr_range (own_below HO.out hW) HMn.out hj0 hy)
          have hjn : j + 1 < n := by rw [← HMn.out]; exact hj1
          clear hj1 hj0 hv hy hA1
          obtain ⟨vs, vz⟩ := v
          obtain ⟨ys, yz⟩ := y
          have HGR : Hid (∀ W, Calls Try.prog 23 #[uv vs vz, uv ys yz] W fun e w' => e = .returned (.int .i64 (cmpI yz vz)) ∧ Below W.heap.size W w') := Lib.hid (fun W => great_any vs ys vz yz W)
          have hcl := cmpI_lt yz vz
          obtain ⟨r, hr⟩ : ∃ r, cmpI yz vz = r := ⟨_, rfl⟩
          rw [hr] at HGR hcl
          clear hr
          simp only at HRv HRy
          have hu := Try.underlying23
          have HI : Hid ((Try.prog.info? 23).map (·.size) = some 2) := Lib.hid (by kernel_rfl)
          go_wp2_with fail
          refine wp_grow wr (by kernel_rfl) (by kernel_rfl) (Below.refl _ _) ?_
          simp only []
          iterate 8 go_big_quiet_step (fail)
          refine BigFrame.wpQuiet_want (by kernel_rfl) (fun K hK => quiet_load_mid 23 (.tmp 25) rfl g ((j + 1) * 2) rfl [.string vs, .int .i64 vz] _ (fun W ⟨X, hX⟩ => by rw [hX]; exact HRv.out _ X.h) hu rfl HI.out (hK _ ?_))
          simp only [Act.put, List.setIfInBounds_toArray, List.set_cons_zero, List.set_cons_succ]
          iterate 4 go_big_quiet_step (fail)
          refine BigFrame.wpQuiet_want (by kernel_rfl) (fun K hK => quiet_load_mid 23 (.tmp 30) rfl g (j * 2) rfl [.string ys, .int .i64 yz] _ (fun W ⟨X, hX⟩ => by rw [hX]; exact HRy.out _ X.h) hu rfl HI.out (hK _ ?_))
          simp only [Act.put, List.setIfInBounds_toArray, List.set_cons_zero, List.set_cons_succ]
          go_big_quiet_step (exact grow_call _ (HGR.out _))
          iterate 2 go_big_quiet_step (fail)
          refine wpQuiet_nil ?_
          intro X
          have hb4 := X.h
          obtain ⟨W4, hW4⟩ : ∃ W, X.W = W := ⟨_, rfl⟩
          rw [hW4] at hb4 ⊢
          clear hW4 X
          have HB4 := Lib.hid hb4
          have HO4 := Lib.hid (own_below HO.out hb4)
          clear hb4
          by_cases hyv : yz < vz
          · have HNX := Lib.hid (HS.out.next hyv)
            rw [show decide (yz < vz) = true from by simpa using hyv] at hcl
            go_wp2_with fail
            have HR4v := Lib.hid (HRv.out W4.drew (HB4.out.drew))
            have HR4y := Lib.hid (HRy.out W4.drew (HB4.out.drew))
            have HM1 : Hid (j + 1 < M.length) := Lib.hid (by rw [HMn.out]; exact hjn)
            have HGE := Lib.hid (own_ge HO4.out)
            have HO5 : Hid (W4.drew.ownsRow B 23 2 (.slice (some ⟨g, 0, none⟩) n c) n (prC M).flatten) := Lib.hid (own_below HO4.out (Below.refl _ _).drew)
            have HT5 := Lib.hid (pr_there HO5.out HMn.out hjn)
            have HO6 := Lib.hid (pr_set HO5.out HGE.out HM1.out (ys, yz))
            have HT6 : Hid ((W4.drew.setCells g ((j + 1) * 2) [.string ys, .int .i64 yz]).there g (j * 2) 2) := Lib.hid (pr_there HO6.out.1 (by rw [List.length_set]; exact HMn.out) (by omega))
            have HO7 := Lib.hid (pr_set HO6.out.1 HGE.out (by rw [List.length_set]; have := HM1.out; omega : j < (M.set (j + 1) (ys, yz)).length) (vs, vz))
            have hwj : IntKind.i64.wrap (j : Int) = (j : Int) := IntWalk.i64_in _ (by omega)
            apply region_to
            case h =>
              refine wp_region_any (by kernel_rfl) ?_
              refine wpAny_take (i := 0) (v := .slice (some ⟨g, 0, none⟩) n c) rfl (by kernel_rfl) (by kernel_rfl) (by kernel_rfl) (fun _ _ _ h => nomatch h.1) (.inl ⟨by rfl, fun w => by go_simp⟩) ?_
              simp only [Act.put, List.getElem_toArray, List.getElem_cons_zero, List.setIfInBounds_toArray, List.set_cons_zero, List.set_cons_succ]
              refine wpAny_take (i := 1) (v := .int .i64 ((j + 1 : Nat) : Int)) rfl (by kernel_rfl) (by kernel_rfl) (by kernel_rfl) (fun _ _ _ h => nomatch h.1) (.inl ⟨by rfl, fun w => by go_simp⟩) ?_
              simp only [Act.put, List.getElem_toArray, List.getElem_cons_succ, List.getElem_cons_zero, List.setIfInBounds_toArray, List.set_cons_zero, List.set_cons_succ]
              refine wpAny_take (i := 2) (v := .slice (some ⟨g, 0, none⟩) n c) rfl (by kernel_rfl) (by kernel_rfl) (by kernel_rfl) (fun _ _ _ h => nomatch h.1) (.inl ⟨by rfl, fun w => by go_simp⟩) ?_
              simp only [Act.put, List.getElem_toArray, List.getElem_cons_succ, List.getElem_cons_zero, List.setIfInBounds_toArray, List.set_cons_zero, List.set_cons_succ]
              refine wpAny_take (i := 3) (v := .int .i64 ((j + 1 : Nat) : Int)) rfl (by kernel_rfl) (by kernel_rfl) (by kernel_rfl) (fun _ _ _ h => nomatch h.1) (.inl ⟨by rfl, fun w => by go_simp⟩) ?_
              simp only [Act.put, List.getElem_toArray, List.getElem_cons_succ, List.getElem_cons_zero, List.setIfInBounds_toArray, List.set_cons_zero, List.set_cons_succ]
              refine wpAny_take (i := 4) (v := .int .i64 (j : Int)) rfl (by kernel_rfl) (by kernel_rfl) (by kernel_rfl) (fun _ _ _ h => nomatch h.1) (.inl ⟨by rfl, fun w => by go_simp⟩) ?_
              simp only [Act.put, List.getElem_toArray, List.getElem_cons_succ, List.getElem_cons_zero, List.setIfInBounds_toArray, List.set_cons_zero, List.set_cons_succ]
              refine wpAny_take (i := 5) (v := .slice (some ⟨g, 0, none⟩) n c) rfl (by kernel_rfl) (by kernel_rfl) (by kernel_rfl) (fun _ _ _ h => nomatch h.1) (.inl ⟨by rfl, fun w => by go_simp⟩) ?_
              simp only [Act.put, List.getElem_toArray, List.getElem_cons_succ, List.getElem_cons_zero, List.setIfInBounds_toArray, List.set_cons_zero, List.set_cons_succ]
              refine wpAny_take (i := 6) (v := .int .i64 ((j + 1 : Nat) : Int)) rfl (by kernel_rfl) (by kernel_rfl) (by kernel_rfl) (fun _ _ _ h => nomatch h.1) (.inl ⟨by rfl, fun w => by go_simp⟩) ?_
              simp only [Act.put, List.getElem_toArray, List.getElem_cons_succ, List.getElem_cons_zero, List.setIfInBounds_toArray, List.set_cons_zero, List.set_cons_succ]
              refine wpAny_take (i := 7) (v := .int .i64 (j : Int)) rfl (by kernel_rfl) (by kernel_rfl) (by kernel_rfl) (fun _ _ _ h => nomatch h.1) (.inl ⟨by rfl, fun w => by go_simp⟩) ?_
              simp only [Act.put, List.getElem_toArray, List.getElem_cons_succ, List.getElem_cons_zero, List.setIfInBounds_toArray, List.set_cons_zero, List.set_cons_succ]
              refine wpAny_take (i := 8) (v := .pointer (some ⟨g, j * 2, none⟩)) rfl (by kernel_rfl) (by kernel_rfl) (by kernel_rfl) (fun _ _ _ h => nomatch h.1) (.inl ⟨by rfl, fun w => by go_simp; intro h; omega⟩) ?_
              simp only [Act.put, List.getElem_toArray, List.getElem_cons_succ, List.getElem_cons_zero, List.setIfInBounds_toArray, List.set_cons_zero, List.set_cons_succ]
              refine wpAny_take (i := 10) (v := .slice (some ⟨g, 0, none⟩) n c) rfl (by kernel_rfl) (by kernel_rfl) (by kernel_rfl) (fun _ _ _ h => nomatch h.1) (.inl ⟨by rfl, fun w => by go_simp⟩) ?_
              simp only [Act.put, List.getElem_toArray, List.getElem_cons_succ, List.getElem_cons_zero, List.setIfInBounds_toArray, List.set_cons_zero, List.set_cons_succ]
              refine wpAny_take (i := 11) (v := .int .i64 ((j + 1 : Nat) : Int)) rfl (by kernel_rfl) (by kernel_rfl) (by kernel_rfl) (fun _ _ _ h => nomatch h.1) (.inl ⟨by rfl, fun w => by go_simp⟩) ?_
              simp only [Act.put, List.getElem_toArray, List.getElem_cons_succ, List.getElem_cons_zero, List.setIfInBounds_toArray, List.set_cons_zero, List.set_cons_succ]
              refine wpAny_take (i := 12) (v := .pointer (some ⟨g, (j + 1) * 2, none⟩)) rfl (by kernel_rfl) (by kernel_rfl) (by kernel_rfl) (fun _ _ _ h => nomatch h.1) (.inl ⟨by rfl, fun w => by go_simp; intro h; omega⟩) ?_
              simp only [Act.put, List.getElem_toArray, List.getElem_cons_succ, List.getElem_cons_zero, List.setIfInBounds_toArray, List.set_cons_zero, List.set_cons_succ]
              refine wpAny_ready (rs := [9, 13]) (by kernel_rfl) (by simp) ?_
              refine AllReady.cons rfl (fun K hK => ?_) ?_
              · refine wp_load_mid 23 (.tmp 45) rfl g (j * 2) rfl [.string ys, .int .i64 yz] _ HR4y.out hu rfl HI.out (hK _ _ ?_)
                clear hK K
                simp only [Act.put, List.getElem_toArray, List.getElem_cons_succ, List.getElem_cons_zero, List.setIfInBounds_toArray, List.set_cons_zero, List.set_cons_succ]
                refine wpAny_ready (rs := [13]) (by kernel_rfl) (by simp) ?_
                refine AllReady.cons rfl (fun K hK => ?_) ?_
                · refine wp_load_mid 23 (.tmp 49) rfl g ((j + 1) * 2) rfl [.string vs, .int .i64 vz] _ HR4v.out hu rfl HI.out (hK _ _ ?_)
                  clear hK K
                  simp only [Act.put, List.getElem_toArray, List.getElem_cons_succ, List.getElem_cons_zero, List.setIfInBounds_toArray, List.set_cons_zero, List.set_cons_succ]
                  refine wpAny_take (i := 14) (v := .pointer (some ⟨g, (j + 1) * 2, none⟩)) rfl (by kernel_rfl) (by kernel_rfl) (by kernel_rfl) (fun _ _ _ h => nomatch h.1) (.inl ⟨by rfl, fun w => by go_simp; intro h; omega⟩) ?_
                  simp only [Act.put, List.getElem_toArray, List.getElem_cons_succ, List.getElem_cons_zero, List.setIfInBounds_toArray, List.set_cons_zero, List.set_cons_succ]
                  refine wpAny_ready (rs := [15]) (by kernel_rfl) (by simp) ?_
                  refine AllReady.cons rfl (fun K hK => ?_) ?_
                  · refine wp_store_mid 23 (.tmp 51) (.tmp 46) rfl g ((j + 1) * 2) #[.string ys, .int .i64 yz] rfl rfl HT5.out HI.out (one2 _ _) (hK _ _ ?_)
                    clear hK K
                    simp only [Act.put]
                    refine wpAny_take (i := 16) (v := .pointer (some ⟨g, j * 2, none⟩)) rfl (by kernel_rfl) (by kernel_rfl) (by kernel_rfl) (fun _ _ _ h => nomatch h.1) (.inl ⟨by rfl, fun w => by go_simp; intro h; omega⟩) ?_
                    simp only [Act.put, List.getElem_toArray, List.getElem_cons_succ, List.getElem_cons_zero, List.setIfInBounds_toArray, List.set_cons_zero, List.set_cons_succ]
                    refine wpAny_ready (rs := [17]) (by kernel_rfl) (by simp) ?_
                    refine AllReady.cons rfl (fun K hK => ?_) ?_
                    · refine wp_store_mid 23 (.tmp 52) (.tmp 50) rfl g (j * 2) #[.string vs, .int .i64 vz] rfl rfl HT6.out HI.out (one2 _ _) (hK _ _ ?_)
                      clear hK K
                      simp only [Act.put]
                      refine wpAny_done (by kernel_rfl) ?_ _
                      exact ⟨rfl, rfl, rfl⟩
                    exact AllReady.nil
                  exact AllReady.nil
                exact AllReady.nil
              refine AllReady.cons rfl (fun K hK => ?_) ?_
              · refine wp_load_mid 23 (.tmp 49) rfl g ((j + 1) * 2) rfl [.string vs, .int .i64 vz] _ HR4v.out hu rfl HI.out (hK _ _ ?_)
                clear hK K
                simp only [Act.put, List.getElem_toArray, List.getElem_cons_succ, List.getElem_cons_zero, List.setIfInBounds_toArray, List.set_cons_zero, List.set_cons_succ]
                refine wpAny_ready (rs := [9]) (by kernel_rfl) (by simp) ?_
                refine AllReady.cons rfl (fun K hK => ?_) ?_
                · refine wp_load_mid 23 (.tmp 45) rfl g (j * 2) rfl [.string ys, .int .i64 yz] _ HR4y.out hu rfl HI.out (hK _ _ ?_)
                  clear hK K
                  simp only [Act.put, List.getElem_toArray, List.getElem_cons_succ, List.getElem_cons_zero, List.setIfInBounds_toArray, List.set_cons_zero, List.set_cons_succ]
                  refine wpAny_take (i := 14) (v := .pointer (some ⟨g, (j + 1) * 2, none⟩)) rfl (by kernel_rfl) (by kernel_rfl) (by kernel_rfl) (fun _ _ _ h => nomatch h.1) (.inl ⟨by rfl, fun w => by go_simp; intro h; omega⟩) ?_
                  simp only [Act.put, List.getElem_toArray, List.getElem_cons_succ, List.getElem_cons_zero, List.setIfInBounds_toArray, List.set_cons_zero, List.set_cons_succ]
                  refine wpAny_ready (rs := [15]) (by kernel_rfl) (by simp) ?_
                  refine AllReady.cons rfl (fun K hK => ?_) ?_
                  · refine wp_store_mid 23 (.tmp 51) (.tmp 46) rfl g ((j + 1) * 2) #[.string ys, .int .i64 yz] rfl rfl HT5.out HI.out (one2 _ _) (hK _ _ ?_)
                    clear hK K
                    simp only [Act.put]
                    refine wpAny_take (i := 16) (v := .pointer (some ⟨g, j * 2, none⟩)) rfl (by kernel_rfl) (by kernel_rfl) (by kernel_rfl) (fun _ _ _ h => nomatch h.1) (.inl ⟨by rfl, fun w => by go_simp; intro h; omega⟩) ?_
                    simp only [Act.put, List.getElem_toArray, List.getElem_cons_succ, List.getElem_cons_zero, List.setIfInBounds_toArray, List.set_cons_zero, List.set_cons_succ]
                    refine wpAny_ready (rs := [17]) (by kernel_rfl) (by simp) ?_
                    refine AllReady.cons rfl (fun K hK => ?_) ?_
                    · refine wp_store_mid 23 (.tmp 52) (.tmp 50) rfl g (j * 2) #[.string vs, .int .i64 vz] rfl rfl HT6.out HI.out (one2 _ _) (hK _ _ ?_)
                      clear hK K
                      simp only [Act.put]
                      refine wpAny_done (by kernel_rfl) ?_ _
                      exact ⟨rfl, rfl, rfl⟩
                    exact AllReady.nil
                  exact AllReady.nil
                exact AllReady.nil
              exact AllReady.nil
            case hq =>
              have HB7 : Hid (Below B w ((W4.drew.setCells g ((j + 1) * 2) [.string ys, .int .i64 yz]).setCells g (j * 2) [.string vs, .int .i64 vz])) := Lib.hid ((((HB.out.trans (HB4.out.mono (Nat.le_trans hB HB.out.size))).drew).trans HO6.out.2).trans HO7.out.2)
              have HO8 := Lib.hid HO7.out.1
              go_wp2_with fail
              go_roundw
              case rel => exact ⟨j, A1, (ys, yz) :: B', _, by omega, by go_num, HNX, HO8, HB7⟩
              case measure => simp [intOf]
          · have HD := Lib.hid (HS.out.done hyv)
            have HT := Lib.hid HS.out.tot
            rw [show decide (yz < vz) = false from by simpa using hyv] at hcl
            go_wp2_with fail
            go_roundw
            case rel => exact ⟨i + 1, M, by omega, by omega, by go_num, HD, HT, HO4, Lib.hid (HB.out.trans (HB4.out.mono (Nat.le_trans hB HB.out.size)))⟩
            case measure => simp [intOf]; omega
    · obtain rfl : i = n := by omega
      go_wp2_with fail
      go_end0
      refine ⟨rfl, ?_, HBM.out⟩
      have h := HOM.out
      rw [HM0.out, HN.out, List.take_length, List.drop_length, List.append_nil] at h
      rw [HN.out]
      exact h
end Go.Proofs.Ytdcnkchhdmppeaa
