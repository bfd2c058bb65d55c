/-
  THE WALK of the law NumsNames.
-/
import Derived.Test.YtepgphjaejhcjaaNAwake
namespace Go.Proofs.Ytepgphjaejhcjaa.numsNames
open Go.RowKit

theorem nameE_long {l : List UInt8} (h : 12 < l.length) : Pl.nameE l = 4 := by unfold Pl.nameE; rw [if_pos h]
theorem nameE_good {l : List UInt8} (h : ¬ 12 < l.length) (hg : (decide (1 ≤ l.length) && l.all Pl.good) = true) : Pl.nameE l = 0 := by
  simp only [Bool.and_eq_true, decide_eq_true_eq] at hg
  unfold Pl.nameE; rw [if_neg h, if_neg (by intro e; rw [e] at hg; simp at hg), if_pos hg.2]
theorem nameE_bad {l : List UInt8} (h : ¬ 12 < l.length) (hg : (decide (1 ≤ l.length) && l.all Pl.good) = false) : Pl.nameE l = 3 := by
  unfold Pl.nameE
  rw [if_neg h]
  by_cases he : l = []
  · rw [if_pos he]
  · have h1 : 1 ≤ l.length := List.length_pos_iff.2 he
    simp only [h1, decide_true, Bool.true_and] at hg
    rw [if_neg he, hg]; rfl

set_option maxRecDepth 100000 in
theorem walk (a0 : ByteArray) (w : World) (w0 : a0.size ≤ maxLen) :
    Calls Try.prog 7 #[.string a0] w fun e w' => e = .returned (.bool true) ∧ Below w.heap.size w w' := by
  have h1 := name_any a0 w w0
  have hlen := Pl.length_toList a0
  obtain ⟨n, hn⟩ : ∃ n, Pl.nameE a0.data.toList = n := ⟨_, rfl⟩
  rw [hn] at h1
  have h4 : 12 < a0.size → n = 4 := fun h => by rw [← hn]; exact nameE_long (by omega)
  have h0 : ¬ 12 < a0.size → (decide (1 ≤ a0.size) && a0.data.toList.all Pl.good) = true → n = 0 := fun h hg => by rw [← hn]; exact nameE_good (by omega) (by rw [hlen]; exact hg)
  have h3 : ¬ 12 < a0.size → (decide (1 ≤ a0.size) && a0.data.toList.all Pl.good) = false → n = 3 := fun h hg => by rw [← hn]; exact nameE_bad (by omega) (by rw [hlen]; exact hg)
  have H1 := Lib.hid h1
  have H4 := Lib.hid h4
  have H0 := Lib.hid h0
  have H3 := Lib.hid h3
  unfold maxLen at w0
  clear h1 hn h4 h0 h3 hlen
  obtain ⟨b1, hb1⟩ : ∃ b1, decide (1 ≤ (a0.size : Int)) = b1 := ⟨_, rfl⟩
  have hb2 : decide (1 ≤ a0.size) = b1 := by rw [← hb1]; congr 1; apply propext; omega
  rw [hb2] at H0 H3
  go_enter Try.func7, Try.ntmps7
  go_wp2_with fail
  refine H1.out.mono ?_
  rintro e w1 ⟨rfl, rfl⟩
  clear H1
  go_wp2_with fail
  go_loop [4, 5] (fun g i => ∃ (k : Nat) (b : Bool), k ≤ a0.size ∧ i = .int .i64 (k : Int) ∧ g = .bool b ∧ Hid ((b1 && (a0.data.toList.take k).all Pl.good) = b)) (fun _ i => a0.size - (intOf i).toNat)
  case atStart => exact ⟨0, b1, Nat.zero_le _, rfl, rfl, Lib.hid (by simp)⟩
  case round =>
    clear hb1 hb2
    obtain ⟨k, b, hk, rfl, rfl, hg⟩ := hrel
    by_cases hlt : k < a0.size
    · have hb : a0[k].toNat < 256 := a0[k].toNat_lt
      have HA := Lib.hid (good_all a0 k hlt)
      cases b with
      | false =>
        go_wp2
        go_round
        case rel => exact ⟨k + 1, false, by omega, by go_num, rfl, Lib.hid (by rw [HA.out, ← Bool.and_assoc, hg.out]; rfl)⟩
        case measure => simp [intOf]; omega
      | true =>
        by_cases h33 : a0[k].toNat < 33
        · go_wp2
          go_round
          case rel => exact ⟨k + 1, false, by omega, by go_num, rfl, Lib.hid (by rw [HA.out, good_no1 h33, Bool.and_false, Bool.and_false])⟩
          case measure => simp [intOf]; omega
        · by_cases h126 : 126 < a0[k].toNat
          · go_wp2
            go_round
            case rel => exact ⟨k + 1, false, by omega, by go_num, by (congr 1; simp; omega), Lib.hid (by rw [HA.out, good_no2 h126, Bool.and_false, Bool.and_false])⟩
            case measure => simp [intOf]; omega
          · go_wp2
            go_round
            case rel => exact ⟨k + 1, true, by omega, by go_num, by (congr 1; simp; omega), Lib.hid (by rw [HA.out, ← Bool.and_assoc, hg.out, good_yes (by omega) (by omega)]; rfl)⟩
            case measure => simp [intOf]; omega
    · have hall : (a0.data.toList.take k) = a0.data.toList := List.take_of_length_le (by rw [Pl.length_toList]; omega)
      have HG := Lib.hid (hall ▸ hg.out)
      clear hg hall
      by_cases h12 : 12 < a0.size
      · obtain rfl := H4.out h12
        go_wp2_with fail
        refine (awake_any _).mono ?_
        rintro e w1 ⟨rfl, hb⟩
        go_wp2_with fail
        go_ret
        exact ⟨rfl, hb⟩
      · cases b with
        | true =>
          obtain rfl := H0.out h12 HG.out
          go_wp2_with fail
          refine (awake_any _).mono ?_
          rintro e w1 ⟨rfl, hb⟩
          go_wp2_with fail
          go_ret
          exact ⟨rfl, hb⟩
        | false =>
          obtain rfl := H3.out h12 HG.out
          go_wp2_with fail
          refine (awake_any _).mono ?_
          rintro e w1 ⟨rfl, hb⟩
          go_wp2_with fail
          go_ret
          exact ⟨rfl, hb⟩
end Go.Proofs.Ytepgphjaejhcjaa.numsNames
