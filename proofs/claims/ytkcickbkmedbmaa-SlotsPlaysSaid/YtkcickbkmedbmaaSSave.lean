/-
  CONTRACT of Save.
-/
import Derived.Test.YtkcickbkmedbmaaSStored
import Derived.ProofKit
namespace Go.Proofs.Ytkcickbkmedbmaa
open Go.RowKit Go.Maps
open Fm (sc sc_length bv bv_length)

theorem write_cases {s : St} {f a : Nat} {d : ByteArray} (hoff : s.off = false) (hf : f < 1048576) (ha : a < 65536) (hd : d.size = 64) :
    ((writeF s (f : Int) (a : Int) d).1 = 40 ∧ s.armed = true ∧ s.left = 0 ∧ (writeF s (f : Int) (a : Int) d).2.armed = s.armed ∧ mdT (writeF s (f : Int) (a : Int) d).2 = mdT s) ∨
    ((writeF s (f : Int) (a : Int) d).1 = 0 ∧ (writeF s (f : Int) (a : Int) d).2.off = false ∧ (writeF s (f : Int) (a : Int) d).2.armed = s.armed ∧ (s.armed = true → s.left ≠ 0 ∧ (writeF s (f : Int) (a : Int) d).2.left = s.left - 1) ∧ mdT (writeF s (f : Int) (a : Int) d).2 = Ps.wr (mdT s) f a d) := by
  have hv : validW (f : Int) (a : Int) d = true := by simp [validW, isF, isS, hd]; omega
  unfold writeF spendF
  rw [hoff, hv]
  by_cases h : (s.armed && s.left == 0) = true
  · left
    simp only [h]
    have ha : s.armed = true := by rw [Bool.and_eq_true] at h; exact h.1
    have hl : s.left = 0 := by rw [Bool.and_eq_true] at h; simpa using h.2
    exact ⟨by first | rfl | trivial, ha, hl, by first | rfl | trivial, by first | rfl | trivial⟩
  · right
    have h : (s.armed && s.left == 0) = false := by simpa using h
    simp only [h]
    refine ⟨by first | rfl | trivial, by first | rfl | trivial, by first | rfl | trivial, fun ha => ?_, ?_⟩
    · rw [ha] at h ⊢
      exact ⟨by simpa using h, by first | rfl | simp⟩
    · funext f' a'
      unfold mdT Ps.wr
      by_cases e : f' = f ∧ a' = a
      · obtain ⟨rfl, rfl⟩ := e; simp [updS]
      · have : ¬ ((f' : Int) = (f : Int) ∧ (a' : Int) = (a : Int)) := fun h => e ⟨by omega, by omega⟩
        simp [updS, e, this]

theorem secs_size {n : Nat} {data : ByteArray} (hn1 : 1 ≤ n) (hn2 : n ≤ 2147483647) (hs : data.size ≤ 1000000) {i : Nat} {d : ByteArray} (h : (Ps.secs n data)[i]? = some d) : d.size = 64 := by
  have hi : i < Ps.partsN data.size := by rw [← Ps.secs_length n data]; exact (List.getElem?_eq_some_iff.1 h).1
  rw [Ps.secs_get n data i hi] at h
  injection h with h
  rw [← h]
  exact Ps.secB_size _ _ _ _ (Ps.piece_ok n data i hn1 hn2 hs hi).2

/-- What is so behind i written sectors. -/
structure SV (w wr : World) (X : Nat → Prop) (b n : Nat) (s : St) (f : Nat) (ls : List ByteArray) (i : Nat) (X' : Nat → Prop) (s' : St) : Prop where
  m : M wr X' b (n + i) s'
  off : s'.off = false
  armed : s'.armed = s.armed
  left : s.armed = true → s'.left = s.left - (i : Int)
  md : mdT s' = Ps.puts (mdT s) f (ls.take i)
  new : ∀ k, X' k → X k ∨ w.heap.size ≤ k
  only : Only X w wr
section
variable {w wr w' : World} {X : Nat → Prop} {b n : Nat} {s : St} {f : Nat} {ls : List ByteArray} {i : Nat} {X' : Nat → Prop} {s' : St}
theorem SV.below (h : SV w wr X b n s f ls i X' s') (hb : Below wr.heap.size wr w') : SV w w' X b n s f ls i X' s' :=
  ⟨h.m.below hb, h.off, h.armed, h.left, h.md, h.new, h.only.tr (Only.below hb)⟩
theorem SV.onlyW (h : SV w wr X b n s f ls i X' s') (ho : Only X' wr w') : Only X w w' :=
  h.only.trans ho (fun _ x => x) (fun k hk hl => by
    rcases h.new k hk with h1 | h1
    · exact h1
    · omega)
theorem SV.newW (h : SV w wr X b n s f ls i X' s') {Y'' : Nat → Prop} (hn : ∀ k, Y'' k → X' k ∨ wr.heap.size ≤ k) : ∀ k, Y'' k → X k ∨ w.heap.size ≤ k := fun k hk => by
  have := h.only.size
  rcases hn k hk with h1 | h1
  · exact h.new k h1
  · right; omega
/-- One sector more. -/
theorem SV.step (h : SV w wr X b n s f ls i X' s') {d : ByteArray} (hd : ls[i]? = some d) {Y'' : Nat → Prop} {s'' : St} (hm : M w' Y'' b (n + i + 1) s'') (ho : Only X' wr w') (hn : ∀ k, Y'' k → X' k ∨ wr.heap.size ≤ k) (hoff : s''.off = false) (ha : s''.armed = s'.armed) (hl : s'.armed = true → s''.left = s'.left - 1) (hs : mdT s'' = Ps.wr (mdT s') f i d) :
    SV w w' X b n s f ls (i + 1) Y'' s'' :=
  ⟨hm, hoff, ha.trans h.armed, fun h1 => by rw [hl (by rw [h.armed]; exact h1), h.left h1]; omega, by rw [hs, h.md, Ps.puts_step _ _ _ _ _ hd], h.newW hn, h.onlyW ho⟩
end

def SavePost (w : World) (X : Nat → Prop) (b n : Nat) (s : St) (num : Nat) (data : ByteArray) (e : Ending) (w' : World) : Prop := ∃ X' s', Saved w X b n s num data e w' X' s'
section
variable {w0 w wr w' : World} {X : Nat → Prop} {b n : Nat} {s : St} {num : Nat} {data : ByteArray} {i : Nat} {X' : Nat → Prop} {s' : St}
theorem SV.cut (hb : Below w0.heap.size w0 w) (_hg : s.Good n) (h : SV w wr X b n s (num % 2) (Ps.secs num data) i X' s') (hi : i < Ps.partsN data.size) (ha : s'.armed = true) (hl : s'.left = 0) {Y'' : Nat → Prop} {s'' : St} (hm : M w' Y'' b (n + i + 1) s'') (ho : Only X' wr w') (hn : ∀ k, Y'' k → X' k ∨ wr.heap.size ≤ k) (ha2 : s''.armed = s'.armed) (hmd : mdT s'' = mdT s') :
    SavePost w0 X b n s num data (.returned (.int .i64 40)) w' := by
  have ha0 : s.armed = true := by rw [← h.armed]; exact ha
  have hl0 := h.left ha0
  exact ⟨Y'', s'', (Only.below hb).tr (h.onlyW ho), fun k hk => (h.newW hn k hk).imp id (fun h1 => Nat.le_trans hb.size h1), hm.mono (by omega), ha2.trans h.armed, .inr ⟨rfl, ha0, i, hi, by omega, by rw [hmd, h.md]⟩⟩
theorem SV.done (hb : Below w0.heap.size w0 w) (h : SV w wr X b n s (num % 2) (Ps.secs num data) (Ps.partsN data.size) X' s') :
    SavePost w0 X b n s num data (.returned (.int .i64 0)) wr := by
  have hg := h.m.good
  exact ⟨X', s', (Only.below hb).tr h.only, fun k hk => (h.new k hk).imp id (fun h1 => Nat.le_trans hb.size h1), h.m, h.armed, .inl ⟨rfl, h.off, by rw [h.md, List.take_of_length_le (by rw [Ps.secs_length]; exact Nat.le_refl _)], fun ha => by have := h.left ha; have := hg.l0; omega⟩⟩
end

theorem saveNil_any (w : World) (num : Int) (data : ByteArray) : Calls Try.prog 9 #[.pointer none, .int .i64 num, .string data] w fun e w' => e = .returned (.int .i64 2) ∧ Below w.heap.size w w' := by
  go_enter Try.func9, Try.ntmps9
  go_wp2_with fail
  go_ret
  exact ⟨rfl, Below.refl _ _⟩

set_option maxRecDepth 100000 in
set_option maxHeartbeats 1600000 in
theorem wrong_any (b : Nat) (w : World) (num : Int) (data : ByteArray) (hbad : ¬ (1 ≤ num ∧ num ≤ 2147483647) ∨ 1000000 < data.size) :
    Calls Try.prog 9 #[.pointer (some ⟨b, 0, none⟩), .int .i64 num, .string data] w fun e w' => e = .returned (.int .i64 43) ∧ Below w.heap.size w w' := by
  have HV : Hid (Fm.validF num data.size = false) := Lib.hid (by
    cases hv : Fm.validF num data.size with
    | false => rfl
    | true => have := (Fm.validF_iff _ _).1 hv; omega)
  clear hbad
  go_enter Try.func9, Try.ntmps9
  go_wp2_with fail
  refine (Fm.valid_any num data _).mono ?_
  rw [HV.out]
  rintro e w1 ⟨rfl, hb1⟩
  have HB1 : Hid (Below w.heap.size w w1) := Lib.hid (((Below.refl _ _).alloc (Nat.le_refl _) _).trans (hb1.mono (by simp)))
  clear hb1
  go_wp2_with fail
  go_ret
  exact ⟨rfl, HB1.out⟩

set_option maxRecDepth 100000 in
set_option maxHeartbeats 3200000 in
theorem save_any (X : Nat → Prop) (b n : Nat) (s : St) (w : World) (h : M w X b n s) (hoff : s.off = false) (hn : n ≤ 500000) (num : Nat) (data : ByteArray) (hn1 : 1 ≤ num) (hn2 : num ≤ 2147483647) (hs : data.size ≤ 1000000) :
    Calls Try.prog 9 #[.pointer (some ⟨b, 0, none⟩), .int .i64 (num : Int), .string data] w (SavePost w X b n s num data) := by
  have HV : Hid (Fm.validF (num : Int) data.size = true) := Lib.hid ((Fm.validF_iff _ _).2 ⟨by omega, by omega, hs⟩)
  have HM := Lib.hid h
  have HOFF := Lib.hid hoff
  have HG := Lib.hid h.good
  have HS := Lib.hid hs
  clear h hoff hs
  go_enter Try.func9, Try.ntmps9
  go_wp2_with fail
  refine (Fm.valid_any (num : Int) data _).mono ?_
  rw [HV.out]
  rintro e w1 ⟨rfl, hb1⟩
  have HSN1 : Hid (SN w1 w.heap.size num data) := Lib.hid ((hb1.block _ (by simp)).trans (heap_alloc_new _ _))
  have HB1 : Hid (Below w.heap.size w w1) := Lib.hid (((Below.refl _ _).alloc (Nat.le_refl _) _).trans (hb1.mono (by simp)))
  have q0 : w1.cell? ⟨w.heap.size, 0, none⟩ = some (.int .i64 (num : Int)) := by rw [cell_of_block HSN1.out]; rfl
  have q1 : w1.cell? ⟨w.heap.size, 1, none⟩ = some (.string data) := by rw [cell_of_block HSN1.out]; rfl
  clear hb1 HV
  go_wp2_with fail
  refine (Fm.secs_any num data w1 hn1 hn2 HS.out).mono ?_
  rintro e w2 ⟨g, m, hgw, hm, rfl, hgc, hb2⟩
  have HSN2 : Hid (SN w2 w.heap.size num data) := Lib.hid ((hb2.block _ (lt_of_block HSN1.out)).trans HSN1.out)
  have HB2 : Hid (Below w.heap.size w w2) := Lib.hid (HB1.out.trans (hb2.mono HB1.out.size))
  have hmb : m ≤ 18868 := by rw [hm]; exact Ps.partsN_le HS.out
  have HMM := Lib.hid hm
  have HXL : Hid (∀ k, X k → k < w.heap.size) := Lib.hid (fun k hk => HM.out.lt hk)
  have HGW : Hid (w.heap.size ≤ g) := Lib.hid (Nat.le_trans HB1.out.size hgw)
  have HGC : Hid (w2.heap[g]? = some (.cells (sc (Ps.secs num data)).toArray 9 (0, 0))) := Lib.hid hgc
  have HSV0 : Hid (SV w2 w2 X b n s (num % 2) (Ps.secs num data) 0 X s) := Lib.hid ⟨HM.out.below HB2.out, HOFF.out, rfl, fun _ => by omega, by rw [List.take_zero, Ps.puts_nil], fun k hk => .inl hk, Only.refl _ _⟩
  clear hgw hm hgc hb2 q0 q1 HSN1 HB1
  go_wp2_with fail
  go_loopw [22] (fun v22 wr => ∃ i : Nat, i ≤ m ∧ v22 = .int .i64 (i : Int) ∧ Hid (∃ X' s', SV w2 wr X b n s (num % 2) (Ps.secs num data) i X' s')) (fun v22 _ => m - (RowKit.intOf v22).toNat)
  case atStart => exact ⟨0, by omega, rfl, Lib.hid ⟨_, _, HSV0.out⟩⟩
  case round =>
    obtain ⟨i, hi, rfl, HH⟩ := hrel
    obtain ⟨X', s', hT⟩ := HH.out
    have HT := Lib.hid hT
    clear hT HH HSV0
    by_cases hlt : i < m
    · have hli : i < (Ps.secs num data).length := by rw [Ps.secs_length, ← HMM.out]; exact hlt
      obtain ⟨d, hd⟩ : ∃ d, (Ps.secs num data)[i]? = some d := ⟨_, List.getElem?_eq_getElem hli⟩
      have HDD := Lib.hid hd
      have hkeep : ∀ k, k < w2.heap.size → w.heap.size ≤ k → wr.heap[k]? = w2.heap[k]? := fun k hk hkw => HT.out.only.block k hk (fun hx => by have := HXL.out k hx; omega)
      have HGR := Lib.hid ((hkeep g (lt_of_block HGC.out) HGW.out).trans HGC.out)
      have HSR : Hid (SN wr w.heap.size num data) := Lib.hid ((hkeep _ (lt_of_block HSN2.out) (Nat.le_refl _)).trans HSN2.out)
      have c0 : wr.cell? ⟨g, i, none⟩ = some (.string d) := by
        rw [cell_of_block HGR.out, List.getElem?_toArray]
        simp [sc, hd]
      have q0 : wr.cell? ⟨w.heap.size, 0, none⟩ = some (.int .i64 (num : Int)) := by rw [cell_of_block HSR.out]; rfl
      have q1 : wr.cell? ⟨w.heap.size, 1, none⟩ = some (.string data) := by rw [cell_of_block HSR.out]; rfl
      have i1 : (0 : Int) ≤ (i : Int) := by omega
      have i2 : (i : Int) < (m : Int) := by omega
      clear hd hli hkeep
      go_wp2_with fail
      refine (Fm.slot_any num data wr hn2).mono ?_
      obtain ⟨fs, hfs⟩ : ∃ fs, num % 2 = fs := ⟨_, rfl⟩
      have hfs2 : fs ≤ 1 := by omega
      have HFS := Lib.hid hfs
      rw [hfs]
      clear hfs
      rintro e w3 ⟨rfl, hb3⟩
      have HT3 := Lib.hid (HT.out.below hb3)
      have HWR : Hid (Calls Try.prog 19 #[.pointer (some ⟨b, 0, none⟩), .int .i64 (fs : Int), .int .i64 (i : Int), .string d] w3 fun e w' =>
          (e = .returned (.int .i64 40) ∧ Hid (SavePost w X b n s num data (.returned (.int .i64 40)) w')) ∨
          (e = .returned (.int .i64 0) ∧ Hid (∃ Y'' s'', SV w2 w' X b n s (num % 2) (Ps.secs num data) (i + 1) Y'' s''))) := Lib.hid (by
        refine (writeX X' b (n + i) s' (fs : Int) (i : Int) d w3 HT3.out.m (by omega) (by constructor <;> omega) (by constructor <;> omega)).mono ?_
        rintro e w' ⟨Y'', he, hm2, ho2, hn2'⟩
        rcases write_cases (s := s') (f := fs) (a := i) (d := d) HT3.out.off (by omega) (by omega) (secs_size hn1 hn2 HS.out HDD.out) with ⟨h40, ha, hl, ha2, hmd⟩ | ⟨h00, ho0, ha0', hl, hmd⟩
        · rw [h40] at he
          exact .inl ⟨he, Lib.hid (HT3.out.cut HB2.out HG.out (by rw [← HMM.out]; exact hlt) ha hl hm2 ho2 hn2' ha2 hmd)⟩
        · rw [h00] at he
          exact .inr ⟨he, Lib.hid ⟨Y'', _, HT3.out.step HDD.out hm2 ho2 hn2' ho0 ha0' (fun h => (hl h).2) (by rw [HFS.out]; exact hmd)⟩⟩)
      clear hb3 q0 q1 c0 HT HT3
      go_wp2_with fail
      refine HWR.out.mono ?_
      rintro e w4 (⟨rfl, HP⟩ | ⟨rfl, HP⟩)
      · clear HWR
        go_wp2_with fail
        go_ret
        exact HP.out
      · clear HWR
        go_wp2_with fail
        go_roundw
        case rel => exact ⟨i + 1, by omega, by go_num, HP⟩
        case measure => simp [RowKit.intOf]; omega
    · obtain rfl : i = m := by omega
      have HP : Hid (SavePost w X b n s num data (.returned (.int .i64 0)) wr) := Lib.hid (by
        have h1 := HT.out
        rw [HMM.out] at h1
        exact h1.done HB2.out)
      go_wp2_with fail
      go_ret
      exact HP.out
end Go.Proofs.Ytkcickbkmedbmaa
