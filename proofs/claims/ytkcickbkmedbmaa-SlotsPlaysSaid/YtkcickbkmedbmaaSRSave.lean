/-
  CONTRACT of the reference's Save.
-/
import Derived.Test.YtkcickbkmedbmaaSGen
namespace Go.Proofs.Ytkcickbkmedbmaa
open Go.RowKit Go.Maps

set_option maxRecDepth 100000 in
set_option maxHeartbeats 800000 in
theorem rsave_bad (br : Nat) (z : Int) (data : ByteArray) (w : World) (hbad : ¬ (1 ≤ z ∧ z ≤ 2147483647) ∨ 1000000 < data.size) :
    Calls Try.prog 11 #[.pointer (some ⟨br, 0, none⟩), .int .i64 z, .string data] w fun e w' => e = .returned (.int .i64 43) ∧ Below w.heap.size w w' := by
  have HL := Lib.hid (rlay_none z data w hbad)
  clear hbad
  go_enter Try.func11, Try.ntmps11
  go_wp2_with fail
  refine HL.out.mono ?_
  rintro e w1 ⟨rfl, hb1⟩
  have HB1 := Lib.hid hb1
  clear hb1 HL
  go_wp2_with fail
  go_ret
  exact ⟨rfl, HB1.out⟩

set_option maxRecDepth 100000 in
set_option maxHeartbeats 3200000 in
theorem rsave_gen (X : Nat → Prop) (b n : Nat) (s : St) (w : World) (h : RM w X b n s) (hn : n ≤ 500000) (num : Nat) (data : ByteArray) (hn1 : 1 ≤ num) (hn2 : num ≤ 2147483647) (hs : data.size ≤ 1000000) :
    Calls Try.prog 11 #[.pointer (some ⟨b, 0, none⟩), .int .i64 (num : Int), .string data] w (RGenPost w X b (n + Ps.partsN data.size) (wsF (num % 2) 0 (Ps.secs num data) s)) := by
  have HM := Lib.hid h
  have HL := Lib.hid (rlay_some num data w hn1 hn2 hs)
  obtain ⟨m, hm⟩ : ∃ m, m = Ps.partsN data.size := ⟨_, rfl⟩
  have hmb : m ≤ 18868 := by rw [hm]; exact Ps.partsN_le hs
  have HMM := Lib.hid hm
  have HLEN : Hid ((Ps.secs num data).length = m) := Lib.hid (by rw [Ps.secs_length, hm])
  clear h hs hm
  go_enter Try.func11, Try.ntmps11
  go_wp2_with fail
  refine HL.out.mono ?_
  rintro e w2 ⟨A, c, rfl, hc, hrd, hb2, hnew⟩
  rw [HLEN.out] at hc ⊢
  have HB2 : Hid (Below w.heap.size w w2) := Lib.hid hb2
  have HRD := Lib.hid hrd
  have HXL : Hid (∀ k, X k → k < w.heap.size) := Lib.hid (fun k hk => HM.out.lt hk)
  have HNW := Lib.hid hnew
  have HSV0 : Hid (RV w2 w2 X b n s (num % 2) (Ps.secs num data) 0 X s) := Lib.hid ⟨HM.out.below HB2.out, by rw [List.drop_zero], fun k hk => .inl hk, Only.refl _ _⟩
  obtain ⟨fs, hfs⟩ : ∃ fs, num % 2 = fs := ⟨_, rfl⟩
  have hfs2 : fs ≤ 1 := by omega
  have hfi : (num : Int) % 2 = (fs : Int) := by omega
  have HFS := Lib.hid hfs
  clear hrd hb2 hnew HL hfs
  go_wp2_with fail
  go_loopw [9] (fun v9 wr => ∃ i : Nat, i ≤ m ∧ v9 = .int .i64 (i : Int) ∧ Hid (∃ X' s', RV w2 wr X b n s (num % 2) (Ps.secs num data) i X' s')) (fun v9 _ => m - (RowKit.intOf v9).toNat)
  case atStart => exact ⟨0, by omega, rfl, Lib.hid ⟨_, _, HSV0.out⟩⟩
  case round =>
    obtain ⟨i, hi, rfl, HH⟩ := hrel
    obtain ⟨X', s', hT⟩ := HH.out
    have HT := Lib.hid hT
    clear hT HH HSV0
    by_cases hlt : i < m
    · have hli : i < (Ps.secs num data).length := by rw [HLEN.out]; exact hlt
      obtain ⟨g, off, rfl, hgb, hcs⟩ := Fm.Rd.str_at (w := w2) (B := w2.heap.size) (A := A) (l := Ps.secs num data) HRD.out hli
      obtain ⟨d, hd⟩ : ∃ d, (Ps.secs num data)[i]? = some d := ⟨_, List.getElem?_eq_getElem hli⟩
      have HDD := Lib.hid hd
      have hge := HNW.out _ rfl
      have c0 : wr.cell? ⟨g, off + i, none⟩ = some (.string d) := by
        rw [World.cell?_of_block (w := w2) (HT.out.only.block g hgb (fun hx => by have := HXL.out g hx; simp at hge; omega)), hcs i hli, (List.getElem?_eq_some_iff.1 hd).2]
      have i1 : (0 : Int) ≤ (i : Int) := by omega
      have i2 : (i : Int) < (m : Int) := by omega
      have HWR : Hid (Calls Try.prog 20 #[.pointer (some ⟨b, 0, none⟩), .int .i64 (fs : Int), .int .i64 (i : Int), .string d] wr fun e w' =>
          ∃ c : Int, e = .returned (.int .i64 c) ∧ ((c = 0 ∧ Hid (∃ Y'' s'', RV w2 w' X b n s (num % 2) (Ps.secs num data) (i + 1) Y'' s'')) ∨ ((c != 0) = true ∧ Hid (RGenPost w X b (n + Ps.partsN data.size) (wsF (num % 2) 0 (Ps.secs num data) s) (.returned (.int .i64 c)) w')))) := Lib.hid (by
        refine (rwriteX X' b (n + i) s' (fs : Int) (i : Int) d wr HT.out.m (by omega)).mono ?_
        intro e w' hp
        rw [← HFS.out] at hp
        obtain ⟨c, he, hcs⟩ := HT.out.step HB2.out HDD.out (N := n + Ps.partsN data.size) (by have := HMM.out; omega) hp
        exact ⟨c, he, hcs.imp (fun h => ⟨h.1, Lib.hid h.2⟩) (fun h => ⟨h.1, Lib.hid h.2⟩)⟩)
      clear hd hli hcs hge HT
      go_wp2_with fail
      refine HWR.out.mono ?_
      rintro e w4 ⟨c, rfl, (⟨rfl, HP⟩ | ⟨hc, HP⟩)⟩
      · clear HWR
        go_wp2_with fail
        go_roundw
        case rel => exact ⟨i + 1, by omega, by go_num, HP⟩
        case measure => simp [RowKit.intOf]; omega
      · clear HWR
        go_wp2_with fail
        go_ret
        exact HP.out
    · obtain rfl : i = m := by omega
      have HP : Hid (RGenPost w X b (n + Ps.partsN data.size) (wsF (num % 2) 0 (Ps.secs num data) s) (.returned (.int .i64 0)) wr) := Lib.hid (by
        have h1 := HT.out
        rw [← HLEN.out] at h1
        exact h1.done HB2.out (by rw [HLEN.out, HMM.out]; exact Nat.le_refl _))
      go_wp2_with fail
      go_ret
      exact HP.out
end Go.Proofs.Ytkcickbkmedbmaa
