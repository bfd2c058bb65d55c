/-
  CONTRACTS of the closure of 'find': a frame is taken, or not.
-/
import Derived.Test.YtcmeaeemjecjiaaLStands
import Derived.OneCell
namespace Go.Proofs.Ytcmeaeemjecjiaa
open Go.RowKit Go.Maps
open Fm (own_form own_below own_cap)

theorem infoFr : (Try.prog.info? 40).map (fun i => (i.zero, i.size, i.bytes)) = some (some (.agg #[.int .i64 0, .string ByteArray.empty]), 2, 24) := by kernel_rfl
theorem info_fr : ∃ i, Try.prog.info? 40 = some i ∧ i.zero = some (.agg #[.int .i64 0, .string ByteArray.empty]) ∧ i.size = 2 ∧ i.bytes = 24 := by
  have h := infoFr
  cases hi : Try.prog.info? 40 with
  | none => rw [hi] at h; cases h
  | some i => rw [hi] at h; simp at h; exact ⟨i, rfl, h.1, h.2.1, h.2.2⟩

/-- What 'find' holds while it searches: the medium, the log, its own variables (block g1: the log's address; block g3: the frames found). -/
structure FD (w : World) (X : Nat → Prop) (b n : Nat) (s : St) (bl bm c : Nat) (F : Int → Option Value) (sg tl nx : Int) (g1 g3 base : Nat) (A : Option Addr) (k cp : Nat) (xs : List Value) : Prop where
  m : M w X b n s
  g : LG w bl b bm sg tl nx
  i : IM w bm c F
  v1 : w.heap[g1]? = some (.cells #[.pointer (some ⟨bl, 0, none⟩)] 26 (0, 0))
  v3 : w.heap[g3]? = some (.cells #[.slice A k cp] 27 (0, 0))
  own : w.ownsRow base 40 2 (.slice A k cp) k xs
  base_ : base ≤ w.heap.size
  xb : ∀ j, X j → j < base ∧ j ≠ bl ∧ j ≠ bm ∧ j ≠ g1 ∧ j ≠ g3
  lb : bl < base ∧ bm < base ∧ g1 < base ∧ g3 < base
  ne : bl ≠ g1 ∧ bl ≠ g3 ∧ bm ≠ g1 ∧ bm ≠ g3 ∧ g1 ≠ g3

section
variable {w w' : World} {X : Nat → Prop} {b n : Nat} {s : St} {bl bm c : Nat} {F : Int → Option Value} {sg tl nx : Int} {g1 g3 base : Nat} {A : Option Addr} {k cp : Nat} {xs : List Value}
theorem FD.below (h : FD w X b n s bl bm c F sg tl nx g1 g3 base A k cp xs) (hb : Below w.heap.size w w') : FD w' X b n s bl bm c F sg tl nx g1 g3 base A k cp xs :=
  ⟨h.m.below hb, (hb.block _ h.g.lt).trans h.g, h.i.kept (hb.block _ h.i.lt), (hb.block _ (lt_of_block h.v1)).trans h.v1, (hb.block _ (lt_of_block h.v3)).trans h.v3, own_below h.own hb, Nat.le_trans h.base_ hb.size, h.xb, h.lb, h.ne⟩
theorem FD.bmne (h : FD w X b n s bl bm c F sg tl nx g1 g3 base A k cp xs) : bm ≠ bl := h.i.ne_cells h.g
end

set_option maxRecDepth 100000 in
set_option maxHeartbeats 3200000 in
theorem take_no (X : Nat → Prop) (b n : Nat) (s : St) (bl bm c : Nat) (F : Int → Option Value) (sg tl nx : Int) (g1 g3 base : Nat) (A : Option Addr) (k cp : Nat) (xs : List Value) (f a : Nat) (w : World)
    (h : FD w X b n s bl bm c F sg tl nx g1 g3 base A k cp xs) (hoff : s.off = false) (hf : f < 1048576) (ha : a ≤ 16)
    (hno : Pl.stands (mdT s) f a = none ∨ (0 < k ∧ ∃ m x kk, Pl.stands (mdT s) f a = some (m, x, kk) ∧ (m : Int) ≠ nx)) :
    Calls Try.prog 30 #[.int .i64 (f : Int), .int .i64 (a : Int), .pointer (some ⟨g1, 0, none⟩), .pointer (some ⟨g3, 0, none⟩)] w fun e w' => e = .returned (.bool false) ∧ Below w.heap.size w w' := by
  have HST := Lib.hid (stands_any X b n s f a w h.m hoff hf ha)
  obtain ⟨c0, _, _, c3, _, _, _, _, _, _⟩ := h.g.cl
  have d1 : w.cell? ⟨g1, 0, none⟩ = some (.pointer (some ⟨bl, 0, none⟩)) := by rw [cell_of_block h.v1]; rfl
  have HD := Lib.hid h
  clear h
  rcases hno with hno | ⟨hk, m, x, kk, hst, hm⟩
  · rw [hno] at HST
    clear hno c3
    go_enter Try.func30, Try.ntmps30
    go_wp2_with fail
    refine HST.out.mono ?_
    rintro e w2 ⟨rfl, hb2⟩
    have HB2 := Lib.hid (hb2.alloc hb2.size (.cells #[.int .i64 0, .string ByteArray.empty] 40))
    clear hb2 HST c0 d1
    simp only [standV]
    go_wp2_with fail
    go_quiet (fail)
    go_wp2_with fail
    go_ret
    exact ⟨rfl, Fm.below_drewN HB2.out _⟩
  · rw [hst] at HST
    have hkk : 1 ≤ kk := (Pl.stands_last hst).1
    have g1' : ((kk : Int) == 0) = false := by rw [beq_eq_false_iff_ne]; omega
    have g2 : decide ((0 : Int) < (k : Int)) = true := decide_eq_true (by omega)
    have g3' : ((m : Int) != nx) = true := by rw [bne_iff_ne]; exact hm
    have HKK := Lib.hid hkk
    have HHM := Lib.hid hm
    clear hst hkk hm
    go_enter Try.func30, Try.ntmps30
    go_wp2_with fail
    refine HST.out.mono ?_
    rintro e w2 ⟨rfl, hb2⟩
    have HB2 := Lib.hid (hb2.alloc hb2.size (.cells #[.int .i64 (m : Int), .string ⟨x.toArray⟩] 40))
    have HD2 := Lib.hid (HD.out.below hb2)
    have d1 : w2.cell? ⟨g1, 0, none⟩ = some (.pointer (some ⟨bl, 0, none⟩)) := by rw [cell_of_block HD2.out.v1]; rfl
    have d3 : w2.cell? ⟨g3, 0, none⟩ = some (.slice A k cp) := by rw [cell_of_block HD2.out.v3]; rfl
    have c3 := HD2.out.g.cl.c3
    clear hb2 HST c0
    simp only [standV]
    go_wp2_with fail
    have HDA := Lib.hid (HD2.out.below ((Below.refl _ _).alloc (Nat.le_refl _) (.cells #[.int .i64 (m : Int), .string ⟨x.toArray⟩] 40)))
    have HFA : Hid (FB (w2.alloc (.cells #[.int .i64 (m : Int), .string ⟨x.toArray⟩] 40)) w2.heap.size (.int .i64 (m : Int)) (.string ⟨x.toArray⟩)) := Lib.hid (Fm.new_block _ _)
    clear d1 d3 c3
    generalize (w2.alloc (.cells #[.int .i64 (m : Int), .string ⟨x.toArray⟩] 40)) = w3 at HB2 HDA HFA ⊢
    generalize w2.heap.size = gf at HFA ⊢
    have d1 : w3.cell? ⟨g1, 0, none⟩ = some (.pointer (some ⟨bl, 0, none⟩)) := by rw [cell_of_block HDA.out.v1]; rfl
    have d3 : w3.cell? ⟨g3, 0, none⟩ = some (.slice A k cp) := by rw [cell_of_block HDA.out.v3]; rfl
    have c3 := HDA.out.g.cl.c3
    have e0 : w3.cell? ⟨gf, 0, none⟩ = some (.int .i64 (m : Int)) := by rw [cell_of_block HFA.out]; rfl
    go_quiet (fail)
    go_wp2_with fail
    go_ret
    exact ⟨rfl, Fm.below_drewN HB2.out _⟩

theorem own_keep {w w' : World} {base size n : Nat} {e : TypeId} {v : Value} {xs : List Value} (h : w.ownsRow base e size v n xs) (hk : ∀ q, v.ownBlock = some q → w'.heap[q]? = w.heap[q]?) : w'.ownsRow base e size v n xs :=
  ⟨h.1, h.2.imp id fun ⟨g, cap, cur, hv, hg, hh, hr⟩ => ⟨g, cap, cur, hv, hg, (hk g (by rw [hv]; rfl)).trans hh, hr⟩⟩
theorem cell1 {w : World} {g : Nat} {v : Value} {t : TypeId} (h : w.heap[g]? = some (.cells #[v] t (0, 0))) (u : Value) : (w.setCell ⟨g, 0, none⟩ u).heap[g]? = some (.cells #[u] t (0, 0)) := by
  rw [block_setCell h]; rfl
theorem setCell_size (w : World) (a : Addr) (u : Value) : (w.setCell a u).heap.size = w.heap.size := by simp [World.setCell]

section
variable {w w5 w7 : World} {X : Nat → Prop} {b n : Nat} {s : St} {bl bm c : Nat} {F : Int → Option Value} {sg tl nx : Int} {g1 g3 base : Nat} {A A' : Option Addr} {k cp c' : Nat} {xs ys : List Value}
/-- A frame more in the list. -/
theorem FD.push (h : FD w X b n s bl bm c F sg tl nx g1 g3 base A k cp xs) (hg : w.grownBy w5 (Value.slice A k cp).ownBlock) (ho : w5.ownsRow base 40 2 (.slice A' (k + 1) c') (k + 1) ys) :
    FD (w5.setCell ⟨g3, 0, none⟩ (.slice A' (k + 1) c')) X b n s bl bm c F sg tl nx g1 g3 base A' (k + 1) c' ys ∧ Only (fun j => j = g3 ∨ base ≤ j) w (w5.setCell ⟨g3, 0, none⟩ (.slice A' (k + 1) c')) := by
  have hob : ∀ q, (Value.slice A k cp).ownBlock = some q → base ≤ q := fun q hq => (h.own.lt q hq).1
  have e5 : ∀ j, j < base → w5.heap[j]? = w.heap[j]? := fun j hj => hg.block j (by have := h.base_; omega) (fun e => by have := hob j e.symm; omega)
  have e6 : ∀ j, j < base → j ≠ g3 → (w5.setCell ⟨g3, 0, none⟩ (.slice A' (k + 1) c')).heap[j]? = w.heap[j]? := fun j hj hne => (block_setCell_other hne _).trans (e5 j hj)
  obtain ⟨l1, l2, l3, l4⟩ := h.lb
  obtain ⟨n1, n2, n3, n4, n5⟩ := h.ne
  have hsz : w.heap.size ≤ w5.heap.size := hg.size
  refine ⟨⟨h.m.keptB (fun j hj => e6 j (h.xb j hj).1 (h.xb j hj).2.2.2.2), (e6 bl l1 n2).trans h.g, h.i.kept (e6 bm l2 n4), (e6 g1 l3 n5).trans h.v1, cell1 ((e5 g3 l4).trans h.v3) _, own_keep ho (fun q hq => block_setCell_other (by have := (ho.lt q hq).1; omega) _), by rw [setCell_size]; have := h.base_; omega, h.xb, h.lb, h.ne⟩, ?_⟩
  refine ⟨hg.os, hg.tape, hg.output, by rw [setCell_size]; exact hsz, fun j _ hj => e6 j (by omega) (by omega)⟩
/-- The log's end moves. -/
theorem FD.end_ (h : FD w X b n s bl bm c F sg tl nx g1 g3 base A k cp xs) {num sg' tl' : Int} {e : Ending} (he : EndPost bl b bm c F num sg' tl' w e w7) : FD w7 X b n s bl bm (c + 1) (upd F sg' (some (.int .i64 num))) sg' tl' (num + 1) g1 g3 base A k cp xs := by
  obtain ⟨_, h2, h3, h4⟩ := he
  obtain ⟨l1, l2, l3, l4⟩ := h.lb
  obtain ⟨n1, n2, n3, n4, n5⟩ := h.ne
  have e6 : ∀ j, j < w.heap.size → j ≠ bl → j ≠ bm → w7.heap[j]? = w.heap[j]? := fun j hj h1 h2 => h4.block j hj (by rintro (e | e) <;> contradiction)
  have hb := h.base_
  refine ⟨h.m.keptB (fun j hj => e6 j (by have := (h.xb j hj).1; omega) (h.xb j hj).2.1 (h.xb j hj).2.2.1), h2, h3, (e6 g1 (by omega) n1.symm n3.symm).trans h.v1, (e6 g3 (by omega) n2.symm n4.symm).trans h.v3, own_keep h.own (fun q hq => e6 q (h.own.lt q hq).2 (by have := (h.own.lt q hq).1; omega) (by have := (h.own.lt q hq).1; omega)), Nat.le_trans hb h4.size, h.xb, h.lb, h.ne⟩
end

/-- What taking a frame leaves. -/
def TakePost (X : Nat → Prop) (b n : Nat) (s : St) (bl bm c : Nat) (F : Int → Option Value) (g1 g3 base k : Nat) (xs : List Value) (f a m : Nat) (x : List UInt8) (kk : Nat) (w : World) (e : Ending) (w' : World) : Prop :=
  e = .returned (.bool true) ∧ ∃ A' cp', FD w' X b n s bl bm (c + 1) (upd F (f : Int) (some (.int .i64 (m : Int)))) (f : Int) ((a + kk : Nat) : Int) ((m : Int) + 1) g1 g3 base A' (k + 1) cp' (xs ++ [.int .i64 (m : Int), .string ⟨x.toArray⟩]) ∧
    Only (fun j => j = bl ∨ j = bm ∨ j = g3 ∨ base ≤ j) w w'

set_option maxRecDepth 100000 in
set_option maxHeartbeats 3200000 in
theorem take_yes (X : Nat → Prop) (b n : Nat) (s : St) (bl bm c : Nat) (F : Int → Option Value) (sg tl nx : Int) (g1 g3 base : Nat) (A : Option Addr) (k cp : Nat) (xs : List Value) (f a m : Nat) (x : List UInt8) (kk : Nat) (w : World)
    (h : FD w X b n s bl bm c F sg tl nx g1 g3 base A k cp xs) (hoff : s.off = false) (hf : f < 1048576) (ha : a ≤ 16) (hk : k ≤ 1000000) (hc : c ≤ 1000000)
    (hst : Pl.stands (mdT s) f a = some (m, x, kk)) (hyes : k = 0 ∨ (m : Int) = nx) (hm : m ≤ 2147483647) (hkk : kk ≤ 16) :
    Calls Try.prog 30 #[.int .i64 (f : Int), .int .i64 (a : Int), .pointer (some ⟨g1, 0, none⟩), .pointer (some ⟨g3, 0, none⟩)] w (TakePost X b n s bl bm c F g1 g3 base k xs f a m x kk w) := by
  obtain ⟨i0, hi0, hz0, hz1, hz2⟩ := info_fr
  have HST := Lib.hid (stands_any X b n s f a w h.m hoff hf ha)
  obtain ⟨c0, _, _, _, _, _, _, _, _, _⟩ := h.g.cl
  have d1 : w.cell? ⟨g1, 0, none⟩ = some (.pointer (some ⟨bl, 0, none⟩)) := by rw [cell_of_block h.v1]; rfl
  have HD := Lib.hid h
  rw [hst] at HST
  have hkk1 : 1 ≤ kk := (Pl.stands_last hst).1
  have g1' : ((kk : Int) == 0) = false := by rw [beq_eq_false_iff_ne]; omega
  have HKK := Lib.hid hkk1
  clear hst h hkk1
  rcases (show k = 0 ∨ (0 < k ∧ (m : Int) = nx) from by rcases hyes with h | h <;> (rcases Nat.eq_zero_or_pos k with h' | h') <;> simp [h, h'] <;> omega) with hk0 | ⟨hk0, hmn⟩
  all_goals clear hyes
  · subst hk0
    have g2 : decide ((0 : Int) < ((0 : Nat) : Int)) = false := rfl
    go_enter Try.func30, Try.ntmps30
    go_wp2_with fail
    refine HST.out.mono ?_
    rintro e w2 ⟨rfl, hb2⟩
    have HB2 := Lib.hid (hb2.alloc hb2.size (.cells #[.int .i64 (m : Int), .string ⟨x.toArray⟩] 40))
    have HD2 := Lib.hid (HD.out.below hb2)
    clear hb2 HST c0
    simp only [standV]
    go_wp2_with fail
    have HDA := Lib.hid (HD2.out.below ((Below.refl _ _).alloc (Nat.le_refl _) (.cells #[.int .i64 (m : Int), .string ⟨x.toArray⟩] 40)))
    have HFA : Hid (FB (w2.alloc (.cells #[.int .i64 (m : Int), .string ⟨x.toArray⟩] 40)) w2.heap.size (.int .i64 (m : Int)) (.string ⟨x.toArray⟩)) := Lib.hid (Fm.new_block _ _)
    clear d1
    generalize (w2.alloc (.cells #[.int .i64 (m : Int), .string ⟨x.toArray⟩] 40)) = w3 at HB2 HDA HFA ⊢
    generalize hgf : w2.heap.size = gf at HFA ⊢
    have HGF := Lib.hid hgf
    clear hgf
    have d1 : w3.cell? ⟨g1, 0, none⟩ = some (.pointer (some ⟨bl, 0, none⟩)) := by rw [cell_of_block HDA.out.v1]; rfl
    have d3 : w3.cell? ⟨g3, 0, none⟩ = some (.slice A 0 cp) := by rw [cell_of_block HDA.out.v3]; rfl
    have c3 := HDA.out.g.cl.c3
    have e1 : w3.cell? ⟨gf, 1, none⟩ = some (.string ⟨x.toArray⟩) := by rw [cell_of_block HFA.out]; rfl
    have e0 : w3.cell? ⟨gf, 0, none⟩ = some (.int .i64 (m : Int)) := by rw [cell_of_block HFA.out]; rfl
    go_quiet (fail)
    have HB4 : Hid (Below w3.heap.size w3 (w3.drewN nq)) := Lib.hid (Fm.below_drewN (Below.refl _ _) _)
    have HDB := Lib.hid (HDA.out.below HB4.out)
    have HFB : Hid (FB (w3.drewN nq) gf (.int .i64 (m : Int)) (.string ⟨x.toArray⟩)) := HFA
    have HBA := Lib.hid (HB2.out.trans (HB4.out.mono HB2.out.size))
    clear d1 d3 c3 e0 e1 HB4 HFA HDA HB2
    generalize w3.drewN nq = w4 at HDB HFB HBA ⊢
    have d3 : w4.cell? ⟨g3, 0, none⟩ = some (.slice A 0 cp) := by rw [cell_of_block HDB.out.v3]; rfl
    have e0 : w4.cell? ⟨gf, 0, none⟩ = some (.int .i64 (m : Int)) := by rw [cell_of_block HFB.out]; rfl
    have e1 : w4.cell? ⟨gf, 1, none⟩ = some (.string ⟨x.toArray⟩) := by rw [cell_of_block HFB.out]; rfl
    have HDC := Lib.hid (HDB.out.below ((Below.refl _ _).alloc (Nat.le_refl _) (.cells #[.int .i64 (m : Int), .string ⟨x.toArray⟩] 40)))
    go_wp2_with (first
      | (at_builtin; refine wpList_append_own_at _ rfl (.tmp 35) (.tmp 37) 27 rfl base 40 i0 _ 2 24 Try.underlying27 hi0 hz0 hz1 hz2 rfl (by decide) _ _ _ rfl HDC.out.own ⟨w4.heap.size, 0, none⟩ 1 1 [.int .i64 (m : Int), .string ⟨x.toArray⟩] rfl rfl ?c1 ?c2 ?c3 ?c4 ?c5 ?_)
      | fail)
    case c1 =>
      intro j u hj
      match j, hj with
      | 0, hj => simp at hj; subst hj; simp [Addr.add]
      | 1, hj => simp at hj; subst hj; simp [Addr.add]
    case c2 =>
      intro u hu
      simp at hu
      rcases hu with rfl | rfl <;> rfl
    case c3 => simp only [maxLen]; omega
    case c4 => omega
    case c5 => exact HDC.out.base_
    intro v' w5 hown' hgrow _ hwhere
    obtain ⟨A5, c5, rfl, _⟩ := own_form hown'
    obtain ⟨hF6, hO6⟩ := HDC.out.push hgrow hown'
    have HF6 := Lib.hid hF6
    have HO6 := Lib.hid hO6
    have hb3 : w5.heap[g3]? = some (.cells #[.slice A 0 cp] 27 (0, 0)) := (hgrow.block g3 (by have := HDC.out.base_; have := HDC.out.lb; omega) (fun e => by have := (HDC.out.own.lt g3 e.symm).1; have := HDC.out.lb; omega)).trans HDC.out.v3
    have hbf : w5.heap[gf]? = some (.cells #[.int .i64 (m : Int), .string ⟨x.toArray⟩] 40 (0, 0)) := by
      have hlt : gf < w4.heap.size := lt_of_block HFB.out
      refine (hgrow.block gf (by simp; omega) (fun e => ?_)).trans ((Below.heap_alloc _ _ gf hlt).trans HFB.out)
      have := (HD2.out.own.lt gf e.symm).2
      have := HGF.out
      omega
    have hbfne : gf ≠ g3 := by
      rintro rfl
      rw [hbf] at hb3
      simp at hb3
    have c6 : (w5.setCell ⟨g3, 0, none⟩ (.slice A5 1 c5)).cell? ⟨g1, 0, none⟩ = some (.pointer (some ⟨bl, 0, none⟩)) := by rw [cell_of_block hF6.v1]; rfl
    have e6 : (w5.setCell ⟨g3, 0, none⟩ (.slice A5 1 c5)).cell? ⟨gf, 0, none⟩ = some (.int .i64 (m : Int)) := by rw [cell_of_block ((block_setCell_other hbfne _).trans hbf)]; rfl
    clear d3 e0 e1 hown' hgrow hwhere hF6 hO6
    have d3 : w5.cell? ⟨g3, 0, none⟩ = some (.slice A 0 cp) := by rw [cell_of_block hb3]; rfl
    have f3 : w5.frozen? ⟨g3, 0, none⟩ = false := frozen_of_block hb3
    have s1 : -9223372036854775808 ≤ (a : Int) + (kk : Int) := by omega
    have s2 : (a : Int) + (kk : Int) ≤ 9223372036854775807 := by omega
    go_wp2_with fail
    refine (end_any bl b bm c F (m : Int) (f : Int) ((a : Int) + (kk : Int)) sg tl nx _ HF6.out.g HF6.out.i hc (by omega) (by omega) (by constructor <;> omega)).mono ?_
    rintro e w7 he
    have HF7 := Lib.hid (HF6.out.end_ he)
    have HE7 := Lib.hid he.2.2.2
    obtain ⟨rfl, _⟩ := he
    clear c6 e6 hb3 hbf
    go_wp2_with fail
    go_ret
    refine ⟨rfl, A5, c5, HF7.out, ?_⟩
    exact ((Only.below HBA.out).tr ((Only.alloc _ _).tr ((HO6.out.mono (fun j hj _ => .inr (.inr hj))).tr (HE7.out.mono (fun j hj _ => hj.elim .inl (fun h => .inr (.inl h)))))))
  · have g2 : decide ((0 : Int) < (k : Int)) = true := decide_eq_true (by omega)
    have g2n : decide (0 < k) = true := decide_eq_true hk0
    have g3' : ((m : Int) != nx) = false := by rw [hmn]; exact bne_self_eq_false _
    have HK0 := Lib.hid hk0
    clear hk0 hmn
    go_enter Try.func30, Try.ntmps30
    go_wp2_with fail
    refine HST.out.mono ?_
    rintro e w2 ⟨rfl, hb2⟩
    have HB2 := Lib.hid (hb2.alloc hb2.size (.cells #[.int .i64 (m : Int), .string ⟨x.toArray⟩] 40))
    have HD2 := Lib.hid (HD.out.below hb2)
    clear hb2 HST c0
    simp only [standV]
    go_wp2_with fail
    have HDA := Lib.hid (HD2.out.below ((Below.refl _ _).alloc (Nat.le_refl _) (.cells #[.int .i64 (m : Int), .string ⟨x.toArray⟩] 40)))
    have HFA : Hid (FB (w2.alloc (.cells #[.int .i64 (m : Int), .string ⟨x.toArray⟩] 40)) w2.heap.size (.int .i64 (m : Int)) (.string ⟨x.toArray⟩)) := Lib.hid (Fm.new_block _ _)
    clear d1
    generalize (w2.alloc (.cells #[.int .i64 (m : Int), .string ⟨x.toArray⟩] 40)) = w3 at HB2 HDA HFA ⊢
    generalize hgf : w2.heap.size = gf at HFA ⊢
    have HGF := Lib.hid hgf
    clear hgf
    have d1 : w3.cell? ⟨g1, 0, none⟩ = some (.pointer (some ⟨bl, 0, none⟩)) := by rw [cell_of_block HDA.out.v1]; rfl
    have d3 : w3.cell? ⟨g3, 0, none⟩ = some (.slice A k cp) := by rw [cell_of_block HDA.out.v3]; rfl
    have c3 := HDA.out.g.cl.c3
    have e1 : w3.cell? ⟨gf, 1, none⟩ = some (.string ⟨x.toArray⟩) := by rw [cell_of_block HFA.out]; rfl
    have e0 : w3.cell? ⟨gf, 0, none⟩ = some (.int .i64 (m : Int)) := by rw [cell_of_block HFA.out]; rfl
    go_quiet (fail)
    have HB4 : Hid (Below w3.heap.size w3 (w3.drewN nq)) := Lib.hid (Fm.below_drewN (Below.refl _ _) _)
    have HDB := Lib.hid (HDA.out.below HB4.out)
    have HFB : Hid (FB (w3.drewN nq) gf (.int .i64 (m : Int)) (.string ⟨x.toArray⟩)) := HFA
    have HBA := Lib.hid (HB2.out.trans (HB4.out.mono HB2.out.size))
    clear d1 d3 c3 e0 e1 HB4 HFA HDA HB2
    generalize w3.drewN nq = w4 at HDB HFB HBA ⊢
    have d3 : w4.cell? ⟨g3, 0, none⟩ = some (.slice A k cp) := by rw [cell_of_block HDB.out.v3]; rfl
    have e0 : w4.cell? ⟨gf, 0, none⟩ = some (.int .i64 (m : Int)) := by rw [cell_of_block HFB.out]; rfl
    have e1 : w4.cell? ⟨gf, 1, none⟩ = some (.string ⟨x.toArray⟩) := by rw [cell_of_block HFB.out]; rfl
    have HDC := Lib.hid (HDB.out.below ((Below.refl _ _).alloc (Nat.le_refl _) (.cells #[.int .i64 (m : Int), .string ⟨x.toArray⟩] 40)))
    go_wp2_with (first
      | (at_builtin; refine wpList_append_own_at _ rfl (.tmp 35) (.tmp 37) 27 rfl base 40 i0 _ 2 24 Try.underlying27 hi0 hz0 hz1 hz2 rfl (by decide) _ _ _ rfl HDC.out.own ⟨w4.heap.size, 0, none⟩ 1 1 [.int .i64 (m : Int), .string ⟨x.toArray⟩] rfl rfl ?c1 ?c2 ?c3 ?c4 ?c5 ?_)
      | fail)
    case c1 =>
      intro j u hj
      match j, hj with
      | 0, hj => simp at hj; subst hj; simp [Addr.add]
      | 1, hj => simp at hj; subst hj; simp [Addr.add]
    case c2 =>
      intro u hu
      simp at hu
      rcases hu with rfl | rfl <;> rfl
    case c3 => simp only [maxLen]; omega
    case c4 => omega
    case c5 => exact HDC.out.base_
    intro v' w5 hown' hgrow _ hwhere
    obtain ⟨A5, c5, rfl, _⟩ := own_form hown'
    obtain ⟨hF6, hO6⟩ := HDC.out.push hgrow hown'
    have HF6 := Lib.hid hF6
    have HO6 := Lib.hid hO6
    have hb3 : w5.heap[g3]? = some (.cells #[.slice A k cp] 27 (0, 0)) := (hgrow.block g3 (by have := HDC.out.base_; have := HDC.out.lb; omega) (fun e => by have := (HDC.out.own.lt g3 e.symm).1; have := HDC.out.lb; omega)).trans HDC.out.v3
    have hbf : w5.heap[gf]? = some (.cells #[.int .i64 (m : Int), .string ⟨x.toArray⟩] 40 (0, 0)) := by
      have hlt : gf < w4.heap.size := lt_of_block HFB.out
      refine (hgrow.block gf (by simp; omega) (fun e => ?_)).trans ((Below.heap_alloc _ _ gf hlt).trans HFB.out)
      have := (HD2.out.own.lt gf e.symm).2
      have := HGF.out
      omega
    have hbfne : gf ≠ g3 := by
      rintro rfl
      rw [hbf] at hb3
      simp at hb3
    have c6 : (w5.setCell ⟨g3, 0, none⟩ (.slice A5 (k + 1) c5)).cell? ⟨g1, 0, none⟩ = some (.pointer (some ⟨bl, 0, none⟩)) := by rw [cell_of_block hF6.v1]; rfl
    have e6 : (w5.setCell ⟨g3, 0, none⟩ (.slice A5 (k + 1) c5)).cell? ⟨gf, 0, none⟩ = some (.int .i64 (m : Int)) := by rw [cell_of_block ((block_setCell_other hbfne _).trans hbf)]; rfl
    clear d3 e0 e1 hown' hgrow hwhere hF6 hO6
    have d3 : w5.cell? ⟨g3, 0, none⟩ = some (.slice A k cp) := by rw [cell_of_block hb3]; rfl
    have f3 : w5.frozen? ⟨g3, 0, none⟩ = false := frozen_of_block hb3
    have s1 : -9223372036854775808 ≤ (a : Int) + (kk : Int) := by omega
    have s2 : (a : Int) + (kk : Int) ≤ 9223372036854775807 := by omega
    go_wp2_with fail
    refine (end_any bl b bm c F (m : Int) (f : Int) ((a : Int) + (kk : Int)) sg tl nx _ HF6.out.g HF6.out.i hc (by omega) (by omega) (by constructor <;> omega)).mono ?_
    rintro e w7 he
    have HF7 := Lib.hid (HF6.out.end_ he)
    have HE7 := Lib.hid he.2.2.2
    obtain ⟨rfl, _⟩ := he
    clear c6 e6 hb3 hbf
    go_wp2_with fail
    go_ret
    refine ⟨rfl, A5, c5, HF7.out, ?_⟩
    exact ((Only.below HBA.out).tr ((Only.alloc _ _).tr ((HO6.out.mono (fun j hj _ => .inr (.inr hj))).tr (HE7.out.mono (fun j hj _ => hj.elim .inl (fun h => .inr (.inl h)))))))
end Go.Proofs.Ytcmeaeemjecjiaa
