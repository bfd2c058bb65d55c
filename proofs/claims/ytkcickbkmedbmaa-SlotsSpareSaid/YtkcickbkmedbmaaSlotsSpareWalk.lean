/-
  The walk of SlotsSpare.
-/
import Derived.Test.YtkcickbkmedbmaaSWalks
import Derived.Deep.RegionHeld3
namespace Go.Proofs.Ytkcickbkmedbmaa.slotsSpare
open Go.RowKit Go.Maps

/-- The sectors of a slot are those from 0 on, so many. -/
def Ext (T : Ps.Md) (f m : Nat) : Prop := ∀ a, (T f a).isSome = true ↔ a < m
theorem Ext.puts {T : Ps.Md} {f m : Nat} (h : Ext T f m) (l : List ByteArray) : Ext (Ps.puts T f l) f (max m l.length) := fun a => by
  unfold Ps.puts
  by_cases ha : a < l.length
  · rw [if_pos ⟨rfl, ha⟩, List.getElem?_eq_getElem ha]
    simp; omega
  · rw [if_neg (fun hc => ha hc.2), h a]
    omega
theorem Ext.other {T : Ps.Md} {f f' m : Nat} (h : Ext T f m) (l : List ByteArray) (hf : f ≠ f') : Ext (Ps.puts T f' l) f m := fun a => by
  rw [Ps.puts_other hf]; exact h a
theorem Ext.size {s : St} {n f m : Nat} (hg : s.Good n) (h : Ext (mdT s) f m) {r : Int} (hz : IsSz (s.S (f : Int)) r) : r = (m : Int) := by
  have hup : ∀ a : Nat, a < m → (a : Int) < r := fun a ha => hz.up _ ((h a).2 ha)
  have hlo : r = 0 ∨ ∃ a : Nat, a < m ∧ r = (a : Int) + 1 := by
    rcases hz.top with h0 | ⟨a, ha, e⟩
    · exact .inl h0
    · right
      obtain ⟨d, hd⟩ := Option.isSome_iff_exists.1 ha
      obtain ⟨⟨_, h0, _⟩, _⟩ := hg.dom _ _ _ hd
      obtain ⟨k, rfl⟩ := Int.eq_ofNat_of_zero_le h0
      exact ⟨k, (h k).1 ha, e⟩
  rcases Nat.eq_zero_or_pos m with h0 | h0
  · rcases hlo with h1 | ⟨a, ha, _⟩
    · omega
    · omega
  · have h1 := hup (m - 1) (by omega)
    rcases hlo with h2 | ⟨a, ha, h2⟩ <;> omega

/-- What is so behind i snapshots. -/
structure JP (w wr : World) (X : Nat → Prop) (b q nw : Nat) (s : St) (i m0 m1 : Nat) : Prop where
  m : M wr X b nw s
  off : s.off = false
  armed : s.armed = false
  e0 : Ext (mdT s) 0 m0
  e1 : Ext (mdT s) 1 m1
  above : ∀ k, X k → w.heap.size ≤ k
  apart : ¬ X q
  qb : wr.heap[q]? = some (.cells #[.int .i64 (m0 : Int), .int .i64 (m1 : Int)] 48 (0, 0))
  qa : w.heap.size ≤ q
  bel : Below w.heap.size w wr
  cap : nw ≤ 100 * i
section
variable {w wr w' : World} {X : Nat → Prop} {b q nw : Nat} {s : St} {i m0 m1 : Nat}
theorem JP.below (h : JP w wr X b q nw s i m0 m1) (hb : Below wr.heap.size wr w') : JP w w' X b q nw s i m0 m1 :=
  ⟨h.m.below hb, h.off, h.armed, h.e0, h.e1, h.above, h.apart, (hb.block _ (lt_of_block h.qb)).trans h.qb, h.qa, h.bel.trans (hb.mono h.bel.size), h.cap⟩
/-- What is kept of a Save. -/
structure SavedP (w w2 w3 : World) (X2 : Nat → Prop) (b q nw : Nat) (s s2 : St) (i : Nat) (d : ByteArray) : Prop where
  m : M w3 X2 b (nw + 100) s2
  off : s2.off = false
  armed : s2.armed = false
  md : mdT s2 = Ps.puts (mdT s) ((i + 1) % 2) (Ps.secs (i + 1) d)
  above : ∀ k, X2 k → w.heap.size ≤ k
  apart : ¬ X2 q
  qb : w3.heap[q]? = w2.heap[q]?
  bel : Below w.heap.size w w3
/-- One more is saved. -/
theorem JP.saved (h : JP w wr X b q nw s i m0 m1) {d : ByteArray} (hd : d.size ≤ 5000) {e : Ending} {X2 : Nat → Prop} {s2 : St} (hv : Saved wr X b nw s (i + 1) d e w' X2 s2) :
    e = .returned (.int .i64 0) ∧ SavedP w wr w' X2 b q nw s s2 i d := by
  rcases hv.case_ with ⟨he, hoff, hmd, _⟩ | ⟨_, ha, _⟩
  · have hp : Ps.partsN d.size ≤ 95 := slotsLasts.partsN_5000 hd
    refine ⟨he, hv.m.mono (by omega), hoff, hv.armed.trans h.armed, hmd, fun k hk => (hv.new k hk).elim (h.above k) (fun h' => Nat.le_trans h.bel.size h'), fun hk => ?_, hv.only.block q (lt_of_block h.qb) h.apart, h.bel.trans (hv.only.to_below h.bel.size (fun i hi _ => h.above i hi))⟩
    rcases hv.new q hk with h1 | h1
    · exact h.apart h1
    · have := lt_of_block h.qb; omega
  · rw [h.armed] at ha; cases ha
theorem JP.next (h : JP w wr X b q nw s i m0 m1) {w3 : World} {X2 : Nat → Prop} {s2 : St} {d : ByteArray} (hs : SavedP w wr w3 X2 b q nw s s2 i d) {f : Nat} (hf : (i + 1) % 2 = f) :
    JP w (w3.setCell ⟨q, f, none⟩ (.int .i64 (max ((if f = 0 then m0 else m1 : Nat) : Int) (Ps.partsN d.size : Int)))).drew X2 b q (nw + 100) s2 (i + 1) (if f = 0 then max m0 (Ps.partsN d.size) else m0) (if f = 0 then m1 else max m1 (Ps.partsN d.size)) := by
  have hcap := h.cap
  have hq3 := hs.qb.trans h.qb
  have hm : M (w3.setCell ⟨q, f, none⟩ (.int .i64 (max ((if f = 0 then m0 else m1 : Nat) : Int) (Ps.partsN d.size : Int)))).drew X2 b (nw + 100) s2 := hs.m.keptB (fun k hk => block_setCell_other (fun e : _ = q => hs.apart (e ▸ hk)) _)
  have hb : Below w.heap.size w (w3.setCell ⟨q, f, none⟩ (.int .i64 (max ((if f = 0 then m0 else m1 : Nat) : Int) (Ps.partsN d.size : Int)))).drew := (hs.bel.setCell (p := ⟨q, f, none⟩) h.qa _).drew
  have hl := Ps.secs_length (i + 1) d
  have e0 := h.e0
  have e1 := h.e1
  have hmd := hs.md
  have hf2 : f = 0 ∨ f = 1 := by omega
  rcases hf2 with rfl | rfl
  · simp only [if_true] at hm hb ⊢
    rw [hf] at hmd
    refine ⟨hm, hs.off, hs.armed, ?_, ?_, hs.above, hs.apart, ?_, h.qa, hb, by omega⟩
    · rw [hmd, ← hl]; exact e0.puts _
    · rw [hmd]; exact e1.other _ (by omega)
    · refine (block_setCell hq3 _).trans ?_
      have : max (m0 : Int) (Ps.partsN d.size : Int) = ((max m0 (Ps.partsN d.size) : Nat) : Int) := by omega
      rw [this]; rfl
  · simp only [if_neg (show ¬ (1 : Nat) = 0 from by omega)] at hm hb ⊢
    rw [hf] at hmd
    refine ⟨hm, hs.off, hs.armed, ?_, ?_, hs.above, hs.apart, ?_, h.qa, hb, by omega⟩
    · rw [hmd]; exact e0.other _ (by omega)
    · rw [hmd, ← hl]; exact e1.puts _
    · refine (block_setCell hq3 _).trans ?_
      have : max (m1 : Int) (Ps.partsN d.size : Int) = ((max m1 (Ps.partsN d.size) : Nat) : Int) := by omega
      rw [this]; rfl
end

theorem par_wrap (i : Nat) (hi : i ≤ 40) : (IntKind.i64.wrap ((i : Int) + 1)).tmod 2 = (((i + 1) % 2 : Nat) : Int) := by
  have h : IntKind.i64.wrap ((i : Int) + 1) = ((i + 1 : Nat) : Int) := by rw [IntKind.wrap_i64]; omega
  rw [h]
  rfl

set_option maxRecDepth 100000 in
set_option maxHeartbeats 6400000 in
theorem walk (A : Option Addr) (n c : Nat) (zs : List Int) (w : World) (hn : n = zs.length) (hu : n * 8 ≤ 140737488351232) (hr : Rd w w.heap.size A (zs.map (Value.int .i64))) :
    Calls Try.prog 6 #[.slice A n c] w fun e w' => e = .returned (.bool true) ∧ Below w.heap.size w w' := by
  have HN := Lib.hid hn
  have HR := Lib.hid hr
  clear hn hr
  go_enter Try.func6, Try.ntmps6
  go_wp2_with fail
  refine (newX w).mono ?_
  rintro e w1 ⟨X0, rfl, hm, hX0, hb0⟩
  have HJ0 : Hid (JP w (w1.alloc (.cells #[.int .i64 0, .int .i64 0] 48)) X0 (w.heap.size + 1) w1.heap.size 0 St.new 0 0 0) := Lib.hid (by
    refine ⟨hm.below ((Below.refl _ _).alloc (Nat.le_refl _) _), rfl, rfl, fun a => ?_, fun a => ?_, hX0, fun h => by have := hm.lt h; omega, heap_alloc_new _ _, hb0.size, hb0.alloc hb0.size _, by omega⟩ <;> (show (none : Option ByteArray).isSome = true ↔ _; simp))
  obtain ⟨q, hq⟩ : ∃ q, q = w1.heap.size := ⟨_, rfl⟩
  rw [← hq] at HJ0
  have HQ := Lib.hid hq
  clear hm hX0 hb0 hq
  go_wp2_with fail
  rw [← HQ.out]
  go_loopw [5] (fun v5 wr => ∃ i : Nat, i ≤ n ∧ i ≤ 40 ∧ v5 = .int .i64 (i : Int) ∧ Hid (∃ X nw s m0 m1, JP w wr X (w.heap.size + 1) q nw s i m0 m1)) (fun v5 _ => 40 - (RowKit.intOf v5).toNat)
  case atStart => exact ⟨0, by omega, by omega, rfl, Lib.hid ⟨_, _, _, _, _, HJ0.out⟩⟩
  case round =>
    obtain ⟨i, hi, hi40, rfl, HH⟩ := hrel
    obtain ⟨X, nw, s, m0, m1, hJ⟩ := HH.out
    have HJ := Lib.hid hJ
    clear hJ HH HJ0
    by_cases hlt : i < n ∧ i < 40
    · obtain ⟨hlt, hlt2⟩ := hlt
      have hil : i < zs.length := by rw [← HN.out]; exact hlt
      obtain ⟨ba, oa, rfl, hba, hcs⟩ := HR.out.int_at hil
      have hc0 := (HJ.out.bel.cell (p := ⟨ba, oa + i, none⟩) hba).trans (hcs i hil)
      generalize zs[i] = v at hc0
      clear hcs hil
      have i1 : (0 : Int) ≤ (i : Int) := by omega
      have i2 : (i : Int) < (n : Int) := by omega
      go_wp2_with fail
      refine (fill_any _ _ _).mono ?_
      rintro e w2 ⟨d, hd, hds, rfl, hb2⟩
      clear hds
      have HJ2 := Lib.hid (HJ.out.below hb2)
      have HSV : Hid (Calls Try.prog 9 #[.pointer (some ⟨w.heap.size + 1, 0, none⟩), .int .i64 ((i : Int) + 1), .string d] w2 fun e w' => e = .returned (.int .i64 0) ∧ Hid (∃ X2 s2, Saved w2 X (w.heap.size + 1) nw s (i + 1) d e w' X2 s2)) := Lib.hid (by
        have hcap := HJ2.out.cap
        refine (cons.save HJ2.out.m HJ2.out.off (by omega) (i + 1) d (by omega) (by omega) (by omega)).mono ?_
        rintro e w' ⟨X2, s2, hv⟩
        exact ⟨(HJ2.out.saved hd hv).1, Lib.hid ⟨X2, s2, hv⟩⟩)
      have HD := Lib.hid hd
      clear hb2 hd HJ hc0
      go_wp2_with fail
      refine HSV.out.mono ?_
      rintro e w3 ⟨rfl, HSS⟩
      obtain ⟨X2, s2, hv⟩ := HSS.out
      have HS3 := Lib.hid (HJ2.out.saved HD.out hv)
      obtain ⟨p, hp⟩ : ∃ p, p = Ps.partsN d.size := ⟨_, rfl⟩
      have HSEC : Hid (∀ W, Calls Try.prog 23 #[.int .i64 (d.size : Int)] W fun e w' => e = .returned (.int .i64 (p : Int)) ∧ w' = W) := Lib.hid (fun W => (Fm.sectors_any (d.size : Int) W (by omega) (by have := HD.out; omega)).mono fun e w' ⟨h1, h2⟩ => ⟨by rw [h1, Fm.sectF_nat, hp], h2.symm⟩)
      have HP := Lib.hid hp
      clear hv HSS HSV hp
      have qb : w3.heap[q]? = some (.cells #[.int .i64 (m0 : Int), .int .i64 (m1 : Int)] 48 (0, 0)) := HS3.out.2.qb.trans HJ2.out.qb
      have HQB := Lib.hid qb
      have c0 : w3.cell? ⟨q, 0, none⟩ = some (.int .i64 (m0 : Int)) := by rw [cell_of_block qb]; rfl
      have c1 : w3.cell? ⟨q, 1, none⟩ = some (.int .i64 (m1 : Int)) := by rw [cell_of_block qb]; rfl
      have f0 : w3.frozen? ⟨q, 0, none⟩ = false := frozen_of_block qb
      have f1 : w3.frozen? ⟨q, 1, none⟩ = false := frozen_of_block qb
      clear qb
      rcases (show ((i : Int) + 1) % 2 = 0 ∨ ((i : Int) + 1) % 2 = 1 from by omega) with hpar | hpar
      · have hpn : (i + 1) % 2 = 0 := by omega
        have hpw : (IntKind.i64.wrap ((i : Int) + 1)).tmod 2 = 0 := by rw [par_wrap i hi40, hpn]; rfl
        have HNX := Lib.hid (HJ2.out.next HS3.out.2 hpn)
        rw [← HP.out] at HNX
        clear hpn hpar
        go_wp2_with fail
        go_still_tail 13, (by kernel_rfl)
        still_call (HSEC.out _)
        repeat still_step
        refine wpStill_nil ?_
        change wpList _ _ _ _ _ w3.drew
        go_wp2_with fail
        go_roundw
        case rel => exact ⟨i + 1, by omega, by omega, by go_num, Lib.hid ⟨_, _, _, _, _, HNX.out⟩⟩
        case measure => simp [RowKit.intOf]; omega
      · have hpn : (i + 1) % 2 = 1 := by omega
        have hpw : (IntKind.i64.wrap ((i : Int) + 1)).tmod 2 = 1 := by rw [par_wrap i hi40, hpn]; rfl
        have HNX := Lib.hid (HJ2.out.next HS3.out.2 hpn)
        rw [← HP.out] at HNX
        clear hpn hpar
        go_wp2_with fail
        go_still_tail 13, (by kernel_rfl)
        still_call (HSEC.out _)
        repeat still_step
        refine wpStill_nil ?_
        change wpList _ _ _ _ _ w3.drew
        go_wp2_with fail
        go_roundw
        case rel => exact ⟨i + 1, by omega, by omega, by go_num, Lib.hid ⟨_, _, _, _, _, HNX.out⟩⟩
        case measure => simp [RowKit.intOf]; omega
    · have HSZ : Hid (∀ W, Below wr.heap.size wr W → ∀ f r : Int, ((f = 0 ∧ r = m0) ∨ (f = 1 ∧ r = m1)) → Calls Try.prog 26 #[.pointer (some ⟨w.heap.size + 1, 0, none⟩), .int .i64 f] W fun e w' => e = .returned (.int .i64 r) ∧ Below W.heap.size W w') := Lib.hid (fun W hW f r hfr => by
        rcases hfr with ⟨rfl, rfl⟩ | ⟨rfl, rfl⟩
        · exact (sizeX X _ nw s 0 W (HJ.out.m.below hW) (by constructor <;> decide)).mono fun e w' ⟨r, he, hz, hb⟩ => ⟨by rw [he, HJ.out.e0.size HJ.out.m.good hz], hb⟩
        · exact (sizeX X _ nw s 1 W (HJ.out.m.below hW) (by constructor <;> decide)).mono fun e w' ⟨r, he, hz, hb⟩ => ⟨by rw [he, HJ.out.e1.size HJ.out.m.good hz], hb⟩)
      have d0 : wr.cell? ⟨q, 0, none⟩ = some (.int .i64 (m0 : Int)) := by rw [cell_of_block HJ.out.qb]; rfl
      have d1 : wr.cell? ⟨q, 1, none⟩ = some (.int .i64 (m1 : Int)) := by rw [cell_of_block HJ.out.qb]; rfl
      have hql : q < wr.heap.size := lt_of_block HJ.out.qb
      have HBW := Lib.hid HJ.out.bel
      have g0 : ((m0 : Int) == (m0 : Int)) = true := beq_self_eq_true _
      have g1 : ((m1 : Int) == (m1 : Int)) = true := beq_self_eq_true _
      have H : Hid (Below wr.heap.size wr wr.drew) := Lib.hid (Fm.World.drew_below _)
      clear HJ
      rcases (show (i < n ∧ ¬ i < 40) ∨ ¬ i < n from by omega) with ⟨ha1, ha2⟩ | ha1
      all_goals
        go_wp2_with fail
        go_region_held3 (fun w' => w'.cell? ⟨q, 0, none⟩ = some (.int .i64 (m0 : Int)) ∧ w'.cell? ⟨q, 1, none⟩ = some (.int .i64 (m1 : Int)))
          (first | exact ⟨(H.out.cell (p := ⟨q, 0, none⟩) hql).trans d0, (H.out.cell (p := ⟨q, 1, none⟩) hql).trans d1⟩)
          (first
            | (go_at_call 26; refine (HSZ.out _ H.out _ _ (by first | exact .inl ⟨rfl, rfl⟩ | exact .inr ⟨rfl, rfl⟩)).mono ?_; rintro e w' ⟨rfl, hb'⟩; have H := Lib.hid (H.out.trans (hb'.mono H.out.size)); clear hb')
            | (go_at_call 25; refine (awake_any _).mono ?_; rintro e w' ⟨rfl, hb'⟩; have H := Lib.hid (H.out.trans (hb'.mono H.out.size)); clear hb'))
        go_wp2_with fail
        go_ret
        exact ⟨rfl, HBW.out.trans (H.out.mono HBW.out.size)⟩
end Go.Proofs.Ytkcickbkmedbmaa.slotsSpare
