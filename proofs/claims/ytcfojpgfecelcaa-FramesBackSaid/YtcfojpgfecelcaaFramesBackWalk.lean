/-
  The walk of FramesBack.
-/
import Derived.Test.YtcfojpgfecelcaaFApp
namespace Go.Proofs.Ytcfojpgfecelcaa.framesBack
open Go.RowKit

theorem lay_inv {x : Int} {data : ByteArray} {l : List ByteArray} (h : Pl.layF x data = some l) : ∃ n : Nat, x = (n : Int) ∧ 1 ≤ n ∧ n ≤ 2147483647 ∧ data.size ≤ 440 ∧ l = Pl.secs n data := by
  unfold Pl.layF at h
  split at h
  · rename_i hc
    injection h with h
    exact ⟨x.toNat, by omega, by omega, by omega, hc.2.2, h.symm⟩
  · cases h
theorem lay_out {x : Int} {data : ByteArray} (h : Pl.layF x data = none) : x < 1 ∨ 2147483647 < x ∨ 440 < data.size := by
  unfold Pl.layF at h
  split at h
  · cases h
  · omega
theorem Rd.sc_take {w : World} {B : Nat} {A : Option Addr} {l : List ByteArray} (h : Rd w B A (sc l)) (i : Nat) : Rd w B A (sc (l.take i)) := by
  have e : sc l = sc (l.take i) ++ sc (l.drop i) := by rw [← sc_append, List.take_append_drop]
  rw [e] at h
  exact h.take

set_option maxRecDepth 100000 in
set_option maxHeartbeats 3200000 in
theorem walk_none (x : Int) (data : ByteArray) (V : Value) (w : World) (h : Pl.layF x data = none) :
    Calls Try.prog 5 #[.int .i64 x, .string data, V] w fun e w' => e = .returned (.bool true) ∧ Below w.heap.size w w' := by
  have HL := Lib.hid (lay_none h)
  have hl := lay_out h
  clear h
  have hcase : (decide (x < 1) = true) ∨ (decide (x < 1) = false ∧ decide (2147483647 < x) = true) ∨ (decide (x < 1) = false ∧ decide (2147483647 < x) = false ∧ decide (440 < data.size) = true ∧ decide ((440 : Int) < (data.size : Int)) = true) := by
    by_cases h1 : x < 1
    · exact .inl (decide_eq_true h1)
    · by_cases h2 : 2147483647 < x
      · exact .inr (.inl ⟨decide_eq_false h1, decide_eq_true h2⟩)
      · exact .inr (.inr ⟨decide_eq_false h1, decide_eq_false h2, decide_eq_true (by omega), decide_eq_true (by omega)⟩)
  clear hl
  rcases hcase with d1 | ⟨d1, d2⟩ | ⟨d1, d2, d3, d4⟩
  all_goals
    go_enter Try.func5, Try.ntmps5
    go_wp2_with fail
    refine (HL.out.code _).mono ?_
    rintro e w1 ⟨A, n, c, rfl, hn, _, _, h1⟩
    have H1 := Lib.hid h1
    have hn0 : ((n : Int) == 0) = true := by rw [beq_iff_eq, hn]; rfl
    clear h1 hn
    go_wp2_with fail
    refine (awake_any _).mono ?_
    rintro e w2 ⟨rfl, h2⟩
    have H2 := Lib.hid (H1.out.trans (h2.mono H1.out.size))
    clear h2
    go_wp2_with fail
    go_ret
    exact ⟨rfl, H2.out⟩

set_option maxRecDepth 100000 in
set_option maxHeartbeats 3200000 in
theorem walk_some (x : Int) (data : ByteArray) (A2 : Option Addr) (n2 c2 : Nat) (l2 : List ByteArray) (w : World) (hn2 : n2 = l2.length) (_hc2 : n2 ≤ c2) (hu : n2 * 16 ≤ 140737488351232) (hr2 : Rd w w.heap.size A2 (sc l2)) (l : List ByteArray) (h : Pl.layF x data = some l) :
    Calls Try.prog 5 #[.int .i64 x, .string data, .slice A2 n2 c2] w fun e w' => e = .returned (.bool true) ∧ Below w.heap.size w w' := by
  have HL := Lib.hid (lay_some h)
  obtain ⟨n, rfl, z1, z2, z3, hl⟩ := lay_inv h
  have hlen : l.length = Pl.partsN data.size := by rw [hl, Pl.secs_length]
  have hp1 := Pl.partsN_pos data.size
  have hp8 := Pl.partsN_le z3
  have HJ := Lib.hid (join_some (show Pl.joinF (l ++ l2) = some (n, data.data.toList, l.length) from by rw [hlen, hl]; exact Pl.join_lay z1 z2 z3 l2))
  rw [Pl.ba_mk] at HJ
  have HT := Lib.hid (fun i (hi : i < l.length) => join_none (show Pl.joinF (l.take i) = none from by rw [hl]; exact Pl.join_torn z1 z2 z3 i (by rw [← hlen]; exact hi)))
  have HS := Lib.hid (fun i (hi : i < l.length) => show (l[i]).size = 64 from by
    have hg := Pl.secs_get n data i (by rw [← hlen]; exact hi)
    rw [← hl, List.getElem?_eq_getElem hi] at hg
    injection hg with hg
    rw [hg]
    exact Pl.secB_size _ _ _ _ (Pl.piece_ok n data i z1 z2 z3 (by rw [← hlen]; exact hi)).2)
  rw [← hlen] at hp1 hp8
  clear h hl hlen z1 z2 z3
  have HN2 := Lib.hid hn2
  have HR2 := Lib.hid hr2
  clear hn2 hr2
  have b1 : ((n : Int) != (n : Int)) = false := bne_self_eq_false _
  have b2 : (data.toList == data.toList) = true := beq_self_eq_true _
  go_enter Try.func5, Try.ntmps5
  go_wp2_with fail
  refine (HL.out.code _).mono ?_
  rintro e w1 ⟨A, m, c, rfl, hm, hmc, hr, h1⟩
  obtain ⟨b, off, rfl, hb, hcs⟩ := hr.str_at (i := 0) (by omega)
  have H1 := Lib.hid h1
  have R1 := Lib.hid hr
  have R2 := Lib.hid ((HR2.out.below h1).mono h1.size)
  have HM := Lib.hid hm
  have hm1 : 1 ≤ m := by omega
  have hm8 : m ≤ 8 := by omega
  clear h1 hr hcs hm hp1 hp8
  have g1 : decide ((8 : Int) < (m : Int)) = false := decide_eq_false (by omega)
  have g2 : decide (8 < m) = false := decide_eq_false (by omega)
  have hb0 : Below w1.heap.size w1 (w1.alloc (.cells #[] 9)) := (Below.refl _ _).alloc (Nat.le_refl _) _
  have hO0 := own_empty w1
  have hR0 : Rd (w1.alloc (.cells #[] 9)) w1.heap.size (some ⟨b, off, none⟩) (sc l) := R1.out.below hb0
  go_wp2_with (first
    | (refine wpList_app_s rfl (.tmp 53) (.tmp 54) rfl w1.heap.size _ 0 0 [] rfl hO0 w1.heap.size _ m c l rfl HM.out hR0 (by omega) hb0.size ?_; intro Aa ca wa hoa hba; rw [List.nil_append, Nat.zero_add] at hoa)
    | (refine wpList_app_s rfl (.tmp 55) (.tmp 56) rfl w1.heap.size Aa m ca l rfl hoa w1.heap.size A2 n2 c2 l2 rfl HN2.out ((R2.out.below hb0).below hba) (by omega) (by have := hba.size; have := hb0.size; omega) ?_; intro Ab cb wb hob hbb)
    | fail)
  have HB := Lib.hid (H1.out.trans ((hb0.trans (hba.trans hbb)).mono H1.out.size))
  have RB := Lib.hid (Rd.of_own hob)
  have hcb := own_cap hob
  have R1 := Lib.hid ((R1.out.below (hb0.trans (hba.trans hbb))).mono (hb0.trans (hba.trans hbb)).size)
  have HMB := Lib.hid (show m + n2 = (l ++ l2).length from by rw [List.length_append, ← HM.out, ← HN2.out])
  rw [← HM.out] at HJ HT
  clear hb0 hO0 hR0 hoa hba hbb hob R2 g1 g2 HR2
  go_wp2_with fail
  refine (HJ.out.code Ab (m + n2) cb _ HMB.out hcb RB.out).mono ?_
  rintro e w2 ⟨rfl, h2⟩
  have H2 := Lib.hid (HB.out.trans (h2.mono HB.out.size))
  have R1 := Lib.hid ((R1.out.below h2).mono h2.size)
  have b3 : ((m : Int) != (m : Int)) = false := bne_self_eq_false _
  clear h2 RB HMB HB HJ
  go_wp2_with fail
  clear b1 b2 b3
  go_loopw [14] (fun i wr => ∃ k : Nat, k ≤ m ∧ i = .int .i64 (k : Int) ∧ Hid (Rd wr wr.heap.size (some ⟨b, off, none⟩) (sc l)) ∧ Hid (Below w.heap.size w wr)) (fun i _ => m - (intOf i).toNat)
  case atStart => exact ⟨0, by omega, rfl, R1, H2⟩
  case round =>
    obtain ⟨k, hk, rfl, HR, HW⟩ := hrel
    by_cases hlt : k < m
    · have hkl : k < l.length := by rw [← HM.out]; exact hlt
      have h1 : (0 : Int) ≤ (k : Int) := by omega
      have h2 : (k : Int) < (m : Int) := by omega
      have h3 : (k : Int) ≤ (c : Int) := by omega
      go_wp2_with fail
      refine ((HT.out k hlt).code (some ⟨b, off, none⟩) k c _ (by rw [List.length_take]; omega) (by omega) (Rd.sc_take HR.out k)).mono ?_
      rintro e w3 ⟨rfl, hb3⟩
      have HW3 := Lib.hid (HW.out.trans (hb3.mono HW.out.size))
      have HR3 := Lib.hid ((HR.out.below hb3).mono hb3.size)
      obtain ⟨b', off', he, _, hcs⟩ := HR3.out.str_at hkl
      injection he with he
      injection he with he1 he2
      subst he1 he2
      have hck := hcs k hkl
      have hsk := HS.out k hkl
      generalize l[k] = sk at hck hsk
      clear hcs hb3
      go_wp2_with fail
      go_roundw
      case rel => exact ⟨k + 1, by omega, by go_num, HR3, HW3⟩
      case measure => simp [intOf]; omega
    · obtain rfl : k = m := by omega
      go_wp2_with fail
      refine (awake_any _).mono ?_
      rintro e w3 ⟨rfl, hb3⟩
      have HW3 := Lib.hid (HW.out.trans (hb3.mono HW.out.size))
      clear hb3
      go_wp2_with fail
      go_ret
      exact ⟨rfl, HW3.out⟩

theorem walk (x : Int) (data : ByteArray) (A2 : Option Addr) (n2 c2 : Nat) (l2 : List ByteArray) (w : World) (hn2 : n2 = l2.length) (hc2 : n2 ≤ c2) (hu : n2 * 16 ≤ 140737488351232) (hr2 : Rd w w.heap.size A2 (sc l2)) :
    Calls Try.prog 5 #[.int .i64 x, .string data, .slice A2 n2 c2] w fun e w' => e = .returned (.bool true) ∧ Below w.heap.size w w' := by
  cases h : Pl.layF x data with
  | none => exact walk_none x data _ w h
  | some l => exact walk_some x data A2 n2 c2 l2 w hn2 hc2 hu hr2 l h
end Go.Proofs.Ytcfojpgfecelcaa.framesBack
