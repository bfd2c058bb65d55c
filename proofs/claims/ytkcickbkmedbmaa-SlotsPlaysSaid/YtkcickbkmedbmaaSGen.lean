/-
  CONTRACTS of Save and the reference's Save, whatever the medium's state: what both answer, and the state they leave ('saveF').
-/
import Derived.Test.YtkcickbkmedbmaaSSave
import Derived.Test.YtkcickbkmedbmaaSRef
import Derived.Test.YtkcickbkmedbmaaMRefR
namespace Go.Proofs.Ytkcickbkmedbmaa
open Go.RowKit Go.Maps

/-- Sectors written from number i on, up to the first error. -/
def wsF (f : Nat) : Nat → List ByteArray → St → Int × St
  | _, [], s => (0, s)
  | i, d :: r, s => if (writeF s (f : Int) (i : Int) d).1 = 0 then wsF f (i + 1) r (writeF s (f : Int) (i : Int) d).2 else writeF s (f : Int) (i : Int) d
def saveF (s : St) (z : Int) (data : ByteArray) : Int × St :=
  if 1 ≤ z ∧ z ≤ 2147483647 ∧ data.size ≤ 1000000 then wsF (z.toNat % 2) 0 (Ps.secs z.toNat data) s else (43, s)

/-- Behind i sectors, all of them written. -/
structure GV (w wr : World) (X : Nat → Prop) (b n : Nat) (s : St) (f : Nat) (ls : List ByteArray) (i : Nat) (X' : Nat → Prop) (s' : St) : Prop where
  m : M wr X' b (n + i) s'
  go : wsF f 0 ls s = wsF f i (ls.drop i) s'
  new : ∀ k, X' k → X k ∨ w.heap.size ≤ k
  only : Only X w wr
/-- The same of the reference's. -/
structure RV (w wr : World) (X : Nat → Prop) (b n : Nat) (s : St) (f : Nat) (ls : List ByteArray) (i : Nat) (X' : Nat → Prop) (s' : St) : Prop where
  m : RM wr X' b (n + i) s'
  go : wsF f 0 ls s = wsF f i (ls.drop i) s'
  new : ∀ k, X' k → X k ∨ w.heap.size ≤ k
  only : Only X w wr
def GenPost (w0 : World) (X : Nat → Prop) (b n : Nat) (r : Int × St) (e : Ending) (w' : World) : Prop := ∃ X', e = .returned (.int .i64 r.1) ∧ M w' X' b n r.2 ∧ Only X w0 w' ∧ ∀ k, X' k → X k ∨ w0.heap.size ≤ k
def RGenPost (w0 : World) (X : Nat → Prop) (b n : Nat) (r : Int × St) (e : Ending) (w' : World) : Prop := ∃ X', e = .returned (.int .i64 r.1) ∧ RM w' X' b n r.2 ∧ Only X w0 w' ∧ ∀ k, X' k → X k ∨ w0.heap.size ≤ k
theorem ws_step {f i : Nat} {ls : List ByteArray} {d : ByteArray} {s : St} (hd : ls[i]? = some d) : wsF f i (ls.drop i) s = if (writeF s (f : Int) (i : Int) d).1 = 0 then wsF f (i + 1) (ls.drop (i + 1)) (writeF s (f : Int) (i : Int) d).2 else writeF s (f : Int) (i : Int) d := by
  have hi := (List.getElem?_eq_some_iff.1 hd).1
  rw [List.drop_eq_getElem_cons hi, (List.getElem?_eq_some_iff.1 hd).2]
  rfl
section
variable {w0 w wr w' : World} {X : Nat → Prop} {b n : Nat} {s : St} {f : Nat} {ls : List ByteArray} {i : Nat} {X' : Nat → Prop} {s' : St}
theorem GV.below (h : GV w wr X b n s f ls i X' s') (hb : Below wr.heap.size wr w') : GV w w' X b n s f ls i X' s' :=
  ⟨h.m.below hb, h.go, h.new, h.only.tr (Only.below hb)⟩
theorem RV.below (h : RV w wr X b n s f ls i X' s') (hb : Below wr.heap.size wr w') : RV w w' X b n s f ls i X' s' :=
  ⟨h.m.below hb, h.go, h.new, h.only.tr (Only.below hb)⟩
theorem only_w (h : Only X w wr) (hn : ∀ k, X' k → X k ∨ w.heap.size ≤ k) (ho : Only X' wr w') : Only X w w' :=
  h.trans ho (fun _ x => x) (fun k hk hl => by
    rcases hn k hk with h1 | h1
    · exact h1
    · omega)
theorem new_w (h : Only X w wr) (hn : ∀ k, X' k → X k ∨ w.heap.size ≤ k) {Y : Nat → Prop} (hy : ∀ k, Y k → X' k ∨ wr.heap.size ≤ k) : ∀ k, Y k → X k ∨ w.heap.size ≤ k := fun k hk => by
  have := h.size
  rcases hy k hk with h1 | h1
  · exact hn k h1
  · right; omega
/-- What one Write more does. -/
theorem GV.step (hb : Below w0.heap.size w0 w) (h : GV w wr X b n s f ls i X' s') {d : ByteArray} (hd : ls[i]? = some d) {e : Ending} {N : Nat} (hN : n + i + 1 ≤ N) (hp : StepX X' b (n + i + 1) (writeF s' (f : Int) (i : Int) d) wr e w') :
    ∃ c : Int, e = .returned (.int .i64 c) ∧ ((c = 0 ∧ ∃ Y'' s'', GV w w' X b n s f ls (i + 1) Y'' s'') ∨ ((c != 0) = true ∧ GenPost w0 X b N (wsF f 0 ls s) (.returned (.int .i64 c)) w')) := by
  obtain ⟨Y, he, hm, ho, hn⟩ := hp
  refine ⟨_, he, ?_⟩
  have hgo := h.go
  rw [ws_step hd] at hgo
  by_cases hc : (writeF s' (f : Int) (i : Int) d).1 = 0
  · rw [if_pos hc] at hgo
    exact .inl ⟨hc, Y, _, hm, hgo, new_w h.only h.new hn, only_w h.only h.new ho⟩
  · rw [if_neg hc] at hgo
    exact .inr ⟨by simpa using hc, Y, by rw [hgo], by rw [hgo]; exact hm.mono hN, (Only.below hb).tr (only_w h.only h.new ho), fun k hk => (new_w h.only h.new hn k hk).imp id (Nat.le_trans hb.size)⟩
theorem RV.step (hb : Below w0.heap.size w0 w) (h : RV w wr X b n s f ls i X' s') {d : ByteArray} (hd : ls[i]? = some d) {e : Ending} {N : Nat} (hN : n + i + 1 ≤ N) (hp : RStepX X' b (n + i + 1) (writeF s' (f : Int) (i : Int) d) wr e w') :
    ∃ c : Int, e = .returned (.int .i64 c) ∧ ((c = 0 ∧ ∃ Y'' s'', RV w w' X b n s f ls (i + 1) Y'' s'') ∨ ((c != 0) = true ∧ RGenPost w0 X b N (wsF f 0 ls s) (.returned (.int .i64 c)) w')) := by
  obtain ⟨Y, he, hm, ho, hn⟩ := hp
  refine ⟨_, he, ?_⟩
  have hgo := h.go
  rw [ws_step hd] at hgo
  by_cases hc : (writeF s' (f : Int) (i : Int) d).1 = 0
  · rw [if_pos hc] at hgo
    exact .inl ⟨hc, Y, _, hm, hgo, new_w h.only h.new hn, only_w h.only h.new ho⟩
  · rw [if_neg hc] at hgo
    exact .inr ⟨by simpa using hc, Y, by rw [hgo], by rw [hgo]; exact hm.mono hN, (Only.below hb).tr (only_w h.only h.new ho), fun k hk => (new_w h.only h.new hn k hk).imp id (Nat.le_trans hb.size)⟩
theorem GV.done (hb : Below w0.heap.size w0 w) (h : GV w wr X b n s f ls ls.length X' s') {N : Nat} (hN : n + ls.length ≤ N) : GenPost w0 X b N (wsF f 0 ls s) (.returned (.int .i64 0)) wr := by
  have hgo := h.go
  rw [List.drop_of_length_le (Nat.le_refl _)] at hgo
  exact ⟨X', by rw [hgo]; rfl, by rw [hgo]; exact h.m.mono hN, (Only.below hb).tr h.only, fun k hk => (h.new k hk).imp id (Nat.le_trans hb.size)⟩
theorem RV.done (hb : Below w0.heap.size w0 w) (h : RV w wr X b n s f ls ls.length X' s') {N : Nat} (hN : n + ls.length ≤ N) : RGenPost w0 X b N (wsF f 0 ls s) (.returned (.int .i64 0)) wr := by
  have hgo := h.go
  rw [List.drop_of_length_le (Nat.le_refl _)] at hgo
  exact ⟨X', by rw [hgo]; rfl, by rw [hgo]; exact h.m.mono hN, (Only.below hb).tr h.only, fun k hk => (h.new k hk).imp id (Nat.le_trans hb.size)⟩
end

set_option maxRecDepth 100000 in
set_option maxHeartbeats 3200000 in
theorem save_gen (X : Nat → Prop) (b n : Nat) (s : St) (w : World) (h : M w X b n s) (hn : n ≤ 500000) (num : Nat) (data : ByteArray) (hn1 : 1 ≤ num) (hn2 : num ≤ 2147483647) (hs : data.size ≤ 1000000) :
    Calls Try.prog 9 #[.pointer (some ⟨b, 0, none⟩), .int .i64 (num : Int), .string data] w (GenPost w X b (n + Ps.partsN data.size) (wsF (num % 2) 0 (Ps.secs num data) s)) := by
  have HV : Hid (Fm.validF (num : Int) data.size = true) := Lib.hid ((Fm.validF_iff _ _).2 ⟨by omega, by omega, hs⟩)
  have HM := Lib.hid h
  have HS := Lib.hid hs
  clear h hs
  go_enter Try.func9, Try.ntmps9
  go_wp2_with fail
  refine (Fm.valid_any (num : Int) data _).mono ?_
  rw [HV.out]
  rintro e w1 ⟨rfl, hb1⟩
  have HSN1 : Hid (SN w1 w.heap.size num data) := Lib.hid ((hb1.block _ (by simp)).trans (heap_alloc_new _ _))
  have HB1 : Hid (Below w.heap.size w w1) := Lib.hid (((Below.refl _ _).alloc (Nat.le_refl _) _).trans (hb1.mono (by simp)))
  have q0 : w1.cell? ⟨w.heap.size, 0, none⟩ = some (.int .i64 (num : Int)) := by rw [cell_of_block HSN1.out]; rfl
  have q1 : w1.cell? ⟨w.heap.size, 1, none⟩ = some (.string data) := by rw [cell_of_block HSN1.out]; rfl
  clear hb1 HV
  go_wp2_with fail
  refine (Fm.secs_any num data w1 hn1 hn2 HS.out).mono ?_
  rintro e w2 ⟨g, m, hgw, hm, rfl, hgc, hb2⟩
  have HSN2 : Hid (SN w2 w.heap.size num data) := Lib.hid ((hb2.block _ (lt_of_block HSN1.out)).trans HSN1.out)
  have HB2 : Hid (Below w.heap.size w w2) := Lib.hid (HB1.out.trans (hb2.mono HB1.out.size))
  have hmb : m ≤ 18868 := by rw [hm]; exact Ps.partsN_le HS.out
  have HMM := Lib.hid hm
  have HLEN : Hid ((Ps.secs num data).length = m) := Lib.hid (by rw [Ps.secs_length, hm])
  have HXL : Hid (∀ k, X k → k < w.heap.size) := Lib.hid (fun k hk => HM.out.lt hk)
  have HGW : Hid (w.heap.size ≤ g) := Lib.hid (Nat.le_trans HB1.out.size hgw)
  have HGC : Hid (w2.heap[g]? = some (.cells (Fm.sc (Ps.secs num data)).toArray 9 (0, 0))) := Lib.hid hgc
  have HSV0 : Hid (GV w2 w2 X b n s (num % 2) (Ps.secs num data) 0 X s) := Lib.hid ⟨HM.out.below HB2.out, by rw [List.drop_zero], fun k hk => .inl hk, Only.refl _ _⟩
  clear hgw hm hgc hb2 q0 q1 HSN1 HB1
  go_wp2_with fail
  go_loopw [22] (fun v22 wr => ∃ i : Nat, i ≤ m ∧ v22 = .int .i64 (i : Int) ∧ Hid (∃ X' s', GV w2 wr X b n s (num % 2) (Ps.secs num data) i X' s')) (fun v22 _ => m - (RowKit.intOf v22).toNat)
  case atStart => exact ⟨0, by omega, rfl, Lib.hid ⟨_, _, HSV0.out⟩⟩
  case round =>
    obtain ⟨i, hi, rfl, HH⟩ := hrel
    obtain ⟨X', s', hT⟩ := HH.out
    have HT := Lib.hid hT
    clear hT HH HSV0
    by_cases hlt : i < m
    · have hli : i < (Ps.secs num data).length := by rw [HLEN.out]; exact hlt
      obtain ⟨d, hd⟩ : ∃ d, (Ps.secs num data)[i]? = some d := ⟨_, List.getElem?_eq_getElem hli⟩
      have HDD := Lib.hid hd
      have hkeep : ∀ k, k < w2.heap.size → w.heap.size ≤ k → wr.heap[k]? = w2.heap[k]? := fun k hk hkw => HT.out.only.block k hk (fun hx => by have := HXL.out k hx; omega)
      have HGR := Lib.hid ((hkeep g (lt_of_block HGC.out) HGW.out).trans HGC.out)
      have HSR : Hid (SN wr w.heap.size num data) := Lib.hid ((hkeep _ (lt_of_block HSN2.out) (Nat.le_refl _)).trans HSN2.out)
      have c0 : wr.cell? ⟨g, i, none⟩ = some (.string d) := by
        rw [cell_of_block HGR.out, List.getElem?_toArray]
        simp [Fm.sc, hd]
      have q0 : wr.cell? ⟨w.heap.size, 0, none⟩ = some (.int .i64 (num : Int)) := by rw [cell_of_block HSR.out]; rfl
      have q1 : wr.cell? ⟨w.heap.size, 1, none⟩ = some (.string data) := by rw [cell_of_block HSR.out]; rfl
      have i1 : (0 : Int) ≤ (i : Int) := by omega
      have i2 : (i : Int) < (m : Int) := by omega
      clear hd hli hkeep
      go_wp2_with fail
      refine (Fm.slot_any num data wr hn2).mono ?_
      obtain ⟨fs, hfs⟩ : ∃ fs, num % 2 = fs := ⟨_, rfl⟩
      have hfs2 : fs ≤ 1 := by omega
      have HFS := Lib.hid hfs
      rw [hfs]
      clear hfs
      rintro e w3 ⟨rfl, hb3⟩
      have HT3 := Lib.hid (HT.out.below hb3)
      have HWR : Hid (Calls Try.prog 19 #[.pointer (some ⟨b, 0, none⟩), .int .i64 (fs : Int), .int .i64 (i : Int), .string d] w3 fun e w' =>
          ∃ c : Int, e = .returned (.int .i64 c) ∧ ((c = 0 ∧ Hid (∃ Y'' s'', GV w2 w' X b n s (num % 2) (Ps.secs num data) (i + 1) Y'' s'')) ∨ ((c != 0) = true ∧ Hid (GenPost w X b (n + Ps.partsN data.size) (wsF (num % 2) 0 (Ps.secs num data) s) (.returned (.int .i64 c)) w')))) := Lib.hid (by
        refine (writeX X' b (n + i) s' (fs : Int) (i : Int) d w3 HT3.out.m (by omega) (by constructor <;> omega) (by constructor <;> omega)).mono ?_
        intro e w' hp
        rw [← HFS.out] at hp
        obtain ⟨c, he, hcs⟩ := HT3.out.step HB2.out HDD.out (N := n + Ps.partsN data.size) (by have := HMM.out; omega) hp
        exact ⟨c, he, hcs.imp (fun h => ⟨h.1, Lib.hid h.2⟩) (fun h => ⟨h.1, Lib.hid h.2⟩)⟩)
      clear hb3 q0 q1 c0 HT HT3
      go_wp2_with fail
      refine HWR.out.mono ?_
      rintro e w4 ⟨c, rfl, (⟨rfl, HP⟩ | ⟨hc, HP⟩)⟩
      · clear HWR
        go_wp2_with fail
        go_roundw
        case rel => exact ⟨i + 1, by omega, by go_num, HP⟩
        case measure => simp [RowKit.intOf]; omega
      · clear HWR
        go_wp2_with fail
        go_ret
        exact HP.out
    · obtain rfl : i = m := by omega
      have HP : Hid (GenPost w X b (n + Ps.partsN data.size) (wsF (num % 2) 0 (Ps.secs num data) s) (.returned (.int .i64 0)) wr) := Lib.hid (by
        have h1 := HT.out
        rw [← HLEN.out] at h1
        exact h1.done HB2.out (by rw [HLEN.out, HMM.out]; exact Nat.le_refl _))
      go_wp2_with fail
      go_ret
      exact HP.out
end Go.Proofs.Ytkcickbkmedbmaa
